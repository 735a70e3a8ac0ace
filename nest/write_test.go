package nest_test

import (
	"bytes"
	"strings"
	"testing"

	"pergola/api"
	"pergola/nest"
)

// P2.1: the chapter's examples, and the table's edges, byte by byte.
func TestEncodeExamples(t *testing.T) {
	a := strings.Repeat
	for _, c := range []struct {
		x api.Item
		b string
	}{
		{text(""), "\x80"}, {api.Item{}, "\x80"}, {text("\x00"), "\x00"}, {text("\x01"), "\x01"}, {text("\x7f"), "\x7f"},
		{text("\x80"), "\x81\x80"}, {text("\xff"), "\x81\xff"}, {text("\x00\x00"), "\x82\x00\x00"}, {text("dog"), "\x83dog"},
		{text(a("a", 55)), "\xb7" + a("a", 55)}, {text(a("a", 56)), "\xb8\x38" + a("a", 56)},
		{text(a("a", 255)), "\xb8\xff" + a("a", 255)}, {text(a("a", 256)), "\xb9\x01\x00" + a("a", 256)},
		{text(a("a", 65535)), "\xb9\xff\xff" + a("a", 65535)}, {text(a("a", 65536)), "\xba\x01\x00\x00" + a("a", 65536)},
		{list(), "\xc0"}, {api.Item{List: true, Items: []api.Item{}}, "\xc0"}, {api.Item{List: true, Bytes: []byte{}}, "\xc0"},
		{list(text("cat"), text("dog")), "\xc8\x83cat\x83dog"}, {list(list(), list(list(), list())), "\xc4\xc0\xc2\xc0\xc0"},
		{list(text(a("a", 54))), "\xf7\xb6" + a("a", 54)}, {list(text(a("a", 55))), "\xf8\x38\xb7" + a("a", 55)},
		{times(55, text("")), "\xf7" + a("\x80", 55)}, {times(56, text("")), "\xf8\x38" + a("\x80", 56)},
		{times(255, text("")), "\xf8\xff" + a("\x80", 255)}, {times(256, list()), "\xf9\x01\x00" + a("\xc0", 256)},
		{times(65535, text("\x05")), "\xf9\xff\xff" + a("\x05", 65535)}, {times(32768, text("\x85")), "\xfa\x01\x00\x00" + a("\x81\x85", 32768)},
		{list(text(a("a", 253))), "\xf8\xff\xb8\xfd" + a("a", 253)}, {list(text(a("a", 254))), "\xf9\x01\x00\xb8\xfe" + a("a", 254)},
		{deep(8), "\xc7\xc6\xc5\xc4\xc3\xc2\xc1\xc0"},
	} {
		b, e := nest.Encode(c.x)
		if string(b) != c.b || e != api.OK {
			t.Errorf("P2.1: %.20x.., %d, not %.20x..", b, e, c.b)
		}
		if !nest.Right(c.x) {
			t.Errorf("P2.1: not Right: %.20x..", c.b)
		}
	}
}

// P2.1: every sample against the plain table.
func TestEncodePlain(t *testing.T) {
	for i, x := range samples() {
		b, e := nest.Encode(x)
		if want := plainEncode(x); e != api.OK || !bytes.Equal(b, want) || !nest.Right(x) {
			t.Errorf("P2.1: sample %d: %.20x.., %d, not %.20x..", i, b, e, want)
		}
	}
}

// refused asks that Encode of x is just this error, and nothing beside it.
func refused(t *testing.T, what string, x api.Item, want api.Errno) {
	t.Helper()
	b, e := nest.Encode(x)
	if e != want || len(b) != 0 {
		t.Errorf("P2.1: %s: %d, not %d; %d bytes", what, e, want, len(b))
	}
	if nest.Right(x) {
		t.Errorf("P2.1: %s: Right", what)
	}
}

// taken asks that Encode of x are so many bytes with this beginning.
func taken(t *testing.T, what string, x api.Item, size int, head string) {
	t.Helper()
	b, e := nest.Encode(x)
	if e != api.OK || len(b) != size || string(b[:min(len(head), len(b))]) != head || !nest.Right(x) {
		t.Errorf("P2.1: %s: %d, %d bytes: %.8x", what, e, len(b), b)
	}
}

var (
	listWithByte = api.Item{List: true, Bytes: []byte{1}}
	textWithItem = api.Item{Items: []api.Item{{}}}
)

// P2.1: each error, of x itself and of what stands in it.
func TestEncodeForm(t *testing.T) {
	both := api.Item{List: true, Bytes: []byte{0}, Items: []api.Item{text("a")}}
	textOfBoth := api.Item{Bytes: []byte("a"), Items: []api.Item{list()}}
	for _, x := range []api.Item{listWithByte, textWithItem, both, textOfBoth} {
		refused(t, "form", x, api.ErrNestForm)
		refused(t, "form, in a list", list(text("a"), x), api.ErrNestForm)
		refused(t, "form, ahead of others", list(list(x), text("a")), api.ErrNestForm)
		refused(t, "form, in seven lists", around(7, x), api.ErrNestForm)
	}
	refused(t, "a text in eight lists", around(8, textWithItem), api.ErrNestForm)
}

// P2.1: MaxNest lists in one another, and one more; a text may stand in MaxNest lists.
func TestEncodeDeep(t *testing.T) {
	taken(t, "eight lists", deep(api.MaxNest), 8, "\xc7\xc6\xc5\xc4\xc3\xc2\xc1\xc0")
	taken(t, "a text in eight lists", around(8, text("cat")), 12, "\xcb\xca\xc9\xc8\xc7\xc6\xc5\xc4\x83cat")
	taken(t, "eight lists, behind one another", list(deep(7), deep(7)), 15, "\xce\xc6")
	refused(t, "nine lists", deep(9), api.ErrNestDeep)
	refused(t, "a hundred lists", deep(100), api.ErrNestDeep)
	refused(t, "nine lists, behind others", list(text("a"), deep(7), deep(8)), api.ErrNestDeep)
	refused(t, "nine lists around a text", around(9, text("a")), api.ErrNestDeep)
}

// R1: a list that stands in itself.
func TestEncodeRound(t *testing.T) {
	l := make([]api.Item, 2)
	l[0], l[1] = list(l...), list(l...)
	refused(t, "a list in itself", list(l...), api.ErrNestDeep)
	l[0] = api.Item{Items: l}
	refused(t, "a text in itself", l[0], api.ErrNestForm)
}

// P2.1: the most bytes that a body has, and one more.
func TestEncodeLong(t *testing.T) {
	const most = api.MaxBytes
	taken(t, "the longest text", zeros(most), most+4, "\xba\xff\xff\xff\x00")
	refused(t, "a text of one more", zeros(most+1), api.ErrNestLong)
	taken(t, "the longest body, of one text", list(zeros(most-4)), most+4, "\xfa\xff\xff\xff\xba\xff\xff\xfb\x00")
	refused(t, "a body of one more", list(zeros(most-3)), api.ErrNestLong)
	refused(t, "the longest text in a list", list(zeros(most)), api.ErrNestLong)
	taken(t, "the longest body, of two texts", list(zeros(most-5), text("")), most+4, "\xfa\xff\xff\xff\xba\xff\xff\xfa\x00")
	refused(t, "two texts of one more", list(zeros(most-5), text("\x80")), api.ErrNestLong)
	taken(t, "the longest body, in eight lists", around(8, zeros(most-32)), most+4, "\xfa\xff\xff\xff\xfa\xff\xff\xfb")
	refused(t, "in eight lists, one more", around(8, zeros(most-31)), api.ErrNestLong)
}

// P2.1: weights that are not too great, and a body that is: that is asked behind all items.
func TestEncodeBody(t *testing.T) {
	short := times(32768, text("\x80")) // 65540 bytes, of the weight 32769
	full := times(255, short).Items
	taken(t, "many short texts", list(full...), 255*65540+4, "\xfa\xff\x03\xfc\xfa\x01\x00\x00\x81\x80")
	taken(t, "the longest body", list(append(full, zeros(64512))...), api.MaxBytes+4, "\xfa\xff\xff\xff")
	refused(t, "a body of one more", list(append(full, zeros(64513))...), api.ErrNestLong)
	refused(t, "many short texts too many", list(append(full, short)...), api.ErrNestLong)
	refused(t, "and a wrong one", list(append(full, short, listWithByte)...), api.ErrNestForm)
	refused(t, "and too deep a one", list(append(full, short, deep(8))...), api.ErrNestDeep)
}

// P2.1: which of two errors is met first.
func TestEncodeOrder(t *testing.T) {
	const most = api.MaxBytes
	wrong := listWithByte
	for _, c := range []struct {
		what string
		x    api.Item
		want api.Errno
	}{
		{"a wrong list in eight lists", around(8, wrong), api.ErrNestDeep},
		{"a wrong list, its items too deep", api.Item{List: true, Bytes: []byte{1}, Items: []api.Item{deep(9)}}, api.ErrNestForm},
		{"a text with items that are too deep", api.Item{Items: []api.Item{deep(9)}}, api.ErrNestForm},
		{"a wrong text that is too long", api.Item{Bytes: make([]byte, most+1), Items: []api.Item{{}}}, api.ErrNestForm},
		{"a wrong list that is too long", api.Item{List: true, Bytes: make([]byte, most+1)}, api.ErrNestForm},
		{"too long, its items wrong", list(zeros(most+1), wrong), api.ErrNestLong},
		{"wrong, the next too long", list(wrong, zeros(most+1)), api.ErrNestForm},
		{"wrong further in, the next too deep", list(list(list(wrong)), deep(8)), api.ErrNestForm},
		{"too deep further in, the next wrong", list(text("a"), deep(8), wrong), api.ErrNestDeep},
		{"too deep, the next too long", list(deep(8), zeros(most+1)), api.ErrNestDeep},
		{"too long, the next too deep", list(zeros(most+1), deep(8)), api.ErrNestLong},
		{"too deep a list, which is too heavy", around(7, list(zeros(most-7), list())), api.ErrNestDeep},
		{"a text there, which is too heavy", around(7, list(zeros(most-7), text(""))), api.ErrNestLong},
	} {
		refused(t, c.what, c.x, c.want)
	}
}

// P2.1: what each item weighs: a wrong one behind them is met just where they are not too heavy together.
func TestEncodeWeights(t *testing.T) {
	const most = api.MaxBytes
	for _, c := range []struct {
		what  string
		first int // the weight of the first text
		l     []api.Item
	}{
		{"x itself", most, nil},
		{"a text of no byte", most - 1, []api.Item{text("")}},
		{"a text of one byte", most - 1, []api.Item{text("a")}},
		{"a text of one byte that needs a head", most - 1, []api.Item{text("\x80")}},
		{"a text of three bytes", most - 3, []api.Item{text("dog")}},
		{"a text of 300 bytes", most - 300, []api.Item{zeros(300)}},
		{"a list of nothing", most - 1, []api.Item{list()}},
		{"a list of a text", most - 4, []api.Item{list(text("dog"))}},
		{"eight lists", most - 7, []api.Item{deep(7)}},
		{"a list that stands there twice", most - 6, []api.Item{list(text(""), text("")), list(text(""), text(""))}},
	} {
		for more, want := range []api.Errno{api.ErrNestForm, api.ErrNestLong} {
			l := append([]api.Item{zeros(c.first + more)}, c.l...)
			refused(t, c.what, list(append(l, listWithByte)...), want)
			refused(t, c.what, list(append(l, textWithItem)...), want)
		}
	}
	refused(t, "x itself, in another", list(list(zeros(most)), listWithByte), api.ErrNestLong)
}

// P2.1 and R1: a few lists, each many times in the next one, whose encoding would have no end.
func TestEncodeWide(t *testing.T) {
	wide := list()
	for range 6 {
		wide = times(1000, wide)
	}
	refused(t, "seven lists", wide, api.ErrNestLong)
	refused(t, "eight lists", list(wide, deep(9), listWithByte), api.ErrNestLong)
	refused(t, "eight lists, a wrong one ahead", list(listWithByte, wide), api.ErrNestForm)
	refused(t, "nine lists", times(1000, times(1000, wide)), api.ErrNestDeep)
	texts := text("")
	for range 8 {
		texts = times(1000, texts)
	}
	refused(t, "texts in eight lists", texts, api.ErrNestLong)
}

// P2.1 and R5, R6: an item, its spare room too, is left as it is and not looked at behind its ends; what Encode answers is new each time.
func TestEncodeMemory(t *testing.T) {
	room := []byte("0123456789")
	spare := []api.Item{{Bytes: room[2:5]}, {Bytes: room[5:5]}, wrongSpare()}
	x := api.Item{List: true, Items: spare[:2]}
	first, e := nest.Encode(x)
	if e != api.OK || string(first) != "\xc5\x83234\x80" {
		t.Fatalf("P2.1: %x, %d", first, e)
	}
	if string(room) != "0123456789" || !same(spare[0], text("234")) || !same(spare[1], text("")) || !same(spare[2], wrongSpare()) {
		t.Error("R5: the item, or its spare room, was changed")
	}
	again, _ := nest.Encode(x)
	scribble(first)
	if string(again) != "\xc5\x83234\x80" || string(room) != "0123456789" {
		t.Error("R5: what was told shares memory")
	}
	scribble(room)
	if string(again) != "\xc5\x83234\x80" {
		t.Error("R5: what was told shows the item's bytes")
	}
	for _, y := range []api.Item{{Bytes: []byte("a")}, {Bytes: []byte("dog")}, {Bytes: make([]byte, 60)}} {
		b, _ := nest.Encode(y)
		want := string(y.Bytes)
		scribble(b)
		if string(y.Bytes) != want {
			t.Error("R5: the encoding of one text is the text")
		}
	}
}

func wrongSpare() api.Item { return api.Item{List: true, Bytes: []byte("spare")} }

// scribble writes over bytes and the spare room behind them.
func scribble(b []byte) {
	for i := range b[:cap(b)] {
		b[:cap(b)][i] ^= 0x55
	}
}
