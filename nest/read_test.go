package nest_test

import (
	"bytes"
	"strings"
	"testing"

	"pergola/api"
	"pergola/nest"
)

// reads asks that First of b, with anything behind it, is x and its length, and that Decode of just b is x.
func reads(t *testing.T, b string, x api.Item) {
	t.Helper()
	for _, more := range []string{"", "\x00", "\x80", "\xc0", "\xff", "more", b} {
		y, n, e := nest.First([]byte(b + more))
		if e != api.OK || n != len(b) || !same(x, y) {
			t.Errorf("P2.2: First(%.20x.. and %.5x) = %d bytes, %d", b, more, n, e)
		}
		y, e = nest.Decode([]byte(b + more))
		if more == "" && (e != api.OK || !same(x, y)) {
			t.Errorf("P2.3: Decode(%.20x..): %d", b, e)
		}
		if more != "" && (e != api.ErrNestMore || !nothing(y)) {
			t.Errorf("P2.3: Decode(%.20x.. and %.5x): %d, not ErrNestMore", b, more, e)
		}
	}
}

// fails asks that First and Decode of b are this error, and nothing beside it.
func fails(t *testing.T, b string, want api.Errno) {
	t.Helper()
	if x, n, e := nest.First([]byte(b)); e != want || n != 0 || !nothing(x) {
		t.Errorf("P2.2: First(%.20x..) = %d, %d, not %d", b, n, e, want)
	}
	if x, e := nest.Decode([]byte(b)); e != want || !nothing(x) {
		t.Errorf("P2.3: Decode(%.20x..) = %d, not %d", b, e, want)
	}
}

// P2.2 and P2.3: the chapter's examples, and the table's edges.
func TestReadExamples(t *testing.T) {
	a := strings.Repeat
	reads(t, "\x83dog", text("dog"))
	reads(t, "\x80", text(""))
	reads(t, "\x00", text("\x00"))
	reads(t, "\x7f", text("\x7f"))
	reads(t, "\x81\x80", text("\x80"))
	reads(t, "\xb7"+a("a", 55), text(a("a", 55)))
	reads(t, "\xb8\x38"+a("a", 56), text(a("a", 56)))
	reads(t, "\xb9\x01\x00"+a("a", 256), text(a("a", 256)))
	reads(t, "\xba\x01\x00\x00"+a("a", 65536), text(a("a", 65536)))
	reads(t, "\xc0", list())
	reads(t, "\xc8\x83cat\x83dog", list(text("cat"), text("dog")))
	reads(t, "\xc4\xc0\xc2\xc0\xc0", list(list(), list(list(), list())))
	reads(t, "\xf7"+a("\x80", 55), times(55, text("")))
	reads(t, "\xf8\x38"+a("\x80", 56), times(56, text("")))
	reads(t, "\xf9\x01\x00"+a("\xc0", 256), times(256, list()))
	reads(t, "\xfa\x01\x00\x00"+a("\x81\xff", 32768), times(32768, text("\xff")))
	reads(t, "\xc7\xc6\xc5\xc4\xc3\xc2\xc1\xc0", deep(8))
	reads(t, "\xc8\xc7\xc6\xc5\xc4\xc3\xc2\xc1\x05", around(8, text("\x05")))
}

// P2.2: the longest text and the longest body.
func TestReadLongest(t *testing.T) {
	long := make([]byte, api.MaxBytes+5)
	copy(long, "\xba\xff\xff\xff")
	x, n, e := nest.First(long)
	if e != api.OK || n != api.MaxBytes+4 || !bytes.Equal(x.Bytes, make([]byte, api.MaxBytes)) || x.List {
		t.Error("P2.2: the longest text:", n, e)
	}
	fails(t, string(long[:api.MaxBytes+3]), api.ErrNestShort)
	copy(long, "\xfa\xff\xff\xff\xba\xff\xff\xfb")
	x, n, e = nest.First(long)
	if e != api.OK || n != api.MaxBytes+4 || !same(x, list(zeros(api.MaxBytes-4))) {
		t.Error("P2.2: the longest body:", n, e)
	}
	fails(t, string(long[:api.MaxBytes+3]), api.ErrNestShort)
}

// P2.2: each error, as the chapter's examples tell it, and at every edge.
func TestReadRefused(t *testing.T) {
	a := strings.Repeat
	for _, b := range []string{
		"", "\x81", "\x83", "\x83d", "\x83do", "\xb7" + a("a", 54), // 1 and 5
		"\xb8", "\xb9", "\xb9\x01", "\xba", "\xba\x01\x00", "\xf8", "\xf9\x01", "\xfa\x01\x00", "\xb9\x00", "\xba\x00\x00", // 4
		"\xb8\x38" + a("a", 55), "\xb9\x01\x00" + a("a", 255), "\xba\x01\x00\x00" + a("a", 65535), "\xba\xff\xff\xffaa", // 5
		"\xc1", "\xc2\x00", "\xf7" + a("\x80", 54), "\xf8\x38" + a("\x80", 55), "\xf9\xff\xff" + a("\x80", 65534), "\xfa\xff\xff\xff", // 5
		"\xc1\x81\x80", "\xc8\xc0\x83def\x83gh", "\xc1\xc1\xc0", "\xc1\xb8" + a("a", 60), "\xc2\xb9\x01\x00" + a("a", 256), "\xc1\xf8", "\xc2\xc2\x81\x80", // beyond a list's end
	} {
		fails(t, b, api.ErrNestShort)
	}
	for _, b := range []string{
		"\xbb", "\xbc", "\xbd", "\xbe", "\xbf", "\xfb", "\xfc", "\xfd", "\xfe", "\xff", "\xbb\x01\x00\x00\x00" + a("a", 100), "\xfb\x01\x00\x00\x00" + a("a", 100), // 3
		"\xb8\x00", "\xb8\x37" + a("a", 55), "\xb8\x37", "\xb9\x00\x38", "\xb9\x00\xff" + a("a", 255), "\xba\x00\x01\x00" + a("a", 256), // 4
		"\xf8\x00", "\xf8\x37" + a("\x80", 55), "\xf8\x37", "\xf9\x00\x38", "\xf9\x00\xff" + a("\x80", 255), "\xfa\x00\x01\x00" + a("\x80", 256), // 4
		"\x81\x00", "\x81\x7f", "\xc2\x81\x00", "\xc4\xc3\x01\x81\x7f", "\xc1\xbb", "\xc3\x01\x02\xff", // 6 and within lists
	} {
		fails(t, b, api.ErrNestForm)
	}
	nine := "\xc8\xc7\xc6\xc5\xc4\xc3\xc2\xc1\xc0"
	for _, b := range []string{nine, nine + "more", "\xc9\xc8\xc7\xc6\xc5\xc4\xc3\xc2\xc1\xc0", "\xca\x01\xc8\xc7\xc6\xc5\xc4\xc3\xc2\xc1\xc0"} {
		fails(t, b, api.ErrNestDeep)
	}
}

// P2.2: which of two errors is met first.
func TestReadOrder(t *testing.T) {
	eight := "\xc8\xc7\xc6\xc5\xc4\xc3\xc2\xc1" // one byte is left of the body
	for _, c := range []struct {
		b string
		e api.Errno
	}{
		{eight, api.ErrNestShort},          // the outermost body is not there: nobody looks further
		{eight + "\xc1", api.ErrNestDeep},  // 2 ahead of 5
		{eight + "\xf8", api.ErrNestDeep},  // 2 ahead of 4
		{eight + "\xff", api.ErrNestDeep},  // 2 ahead of 3
		{eight + "\xbf", api.ErrNestForm},  // a text is never too deep
		{eight + "\x81", api.ErrNestShort}, // 5
		{"\xbb\x01", api.ErrNestForm},      // 3 ahead of 4
		{"\xb9\x00", api.ErrNestShort},     // the length's bytes are not all there: ahead of the 0
		{"\xba\x00\x00\x38", api.ErrNestForm},
		{"\xb8\x37", api.ErrNestForm},          // 4 ahead of 5
		{"\xc3\x81", api.ErrNestShort},         // 5 ahead of the items
		{"\xc2\x81\x00", api.ErrNestForm},      // 6
		{"\xc3\x81\x00\xff", api.ErrNestForm},  // the left item's error
		{"\xc3\x83\x81\x00", api.ErrNestShort}, // the left item's error
		{"\xc2\xff\x83", api.ErrNestForm},      // the left item's error
		{"\xc2\x83\xff", api.ErrNestShort},     // the left item's error
		{"\xc3\xc1\xff\x83", api.ErrNestForm},  // all that stands in an item ahead of the next one
		{"\xc3\xc1\x83\xff", api.ErrNestShort}, // the same
	} {
		_, _, want := plainFirst([]byte(c.b), 0, len(c.b), 0)
		if want != c.e {
			t.Errorf("the plain working-out of %x: %d, not %d", c.b, want, c.e)
		}
		fails(t, c.b, c.e)
	}
}

// P2.2, P2.3, P2.5 and W7: every short text of bytes: First is what the chapter's steps say; what Decode answers is Right, and encoded again it is the bytes.
func TestReadEvery(t *testing.T) {
	for a := range 256 {
		readsAsPlain(t, []byte{byte(a)})
		for b := range 256 {
			readsAsPlain(t, []byte{byte(a), byte(b)})
		}
	}
	bytesOfNote := []byte{0, 1, 0x37, 0x38, 0x7f, 0x80, 0x81, 0x82, 0x83, 0xb7, 0xb8, 0xb9, 0xba, 0xbb, 0xbf, 0xc0, 0xc1, 0xc2, 0xc3, 0xc4, 0xf7, 0xf8, 0xfa, 0xfb, 0xff}
	every(bytesOfNote, 3, func(b []byte) { readsAsPlain(t, b) })
	every(bytesOfNote[4:20], 5, func(b []byte) { readsAsPlain(t, b) })
	// Behind seven and eight open lists, where depths begin to matter.
	every(bytesOfNote, 3, func(b []byte) {
		for n := 6; n <= 9; n++ {
			open := make([]byte, n)
			for i := range open {
				open[i] = byte(192 + n - 1 - i + len(b))
			}
			readsAsPlain(t, append(open, b...))
		}
	})
}

// every tells each text of n of these bytes.
func every(of []byte, n int, tell func([]byte)) {
	at := make([]int, n)
	for {
		b := make([]byte, n)
		for i, k := range at {
			b[i] = of[k]
		}
		tell(b)
		i := 0
		for i < n && at[i] == len(of)-1 {
			at[i] = 0
			i++
		}
		if i == n {
			return
		}
		at[i]++
	}
}

func readsAsPlain(t *testing.T, b []byte) {
	t.Helper()
	want, size, fault := plainFirst(b, 0, len(b), 0)
	x, n, e := nest.First(b)
	if e != fault || n != size || !same(x, want) {
		t.Fatalf("P2.2: First(%x) = %v, %d, %d, not %v, %d, %d", b, x, n, e, want, size, fault)
	}
	y, e := nest.Decode(b)
	if fault == api.OK && size < len(b) {
		fault, want = api.ErrNestMore, api.Item{}
	}
	if e != fault || !same(y, want) {
		t.Fatalf("P2.3: Decode(%x) = %v, %d, not %v, %d", b, y, e, want, fault)
	}
	if fault == api.OK || fault == api.ErrNestMore {
		again, e := nest.Encode(x)
		if e != api.OK || !nest.Right(x) {
			t.Fatalf("P2.6: what First(%x) answered is not Right: %d", b, e)
		}
		if !bytes.Equal(again, b[:n]) {
			t.Fatalf("P2.5: %x: encoded again %x", b[:n], again)
		}
	}
}

// P2.2: encodings that are cut, or have a byte turned, against the chapter's steps.
func TestReadSpoiled(t *testing.T) {
	for _, x := range samples() {
		b := plainEncode(x)
		if len(b) > 300 {
			continue
		}
		for i := range b {
			readsAsPlain(t, b[:i])
			for _, turn := range []byte{1, 2, 0x40, 0x80, 0xff} {
				spoiled := bytes.Clone(b)
				spoiled[i] ^= turn
				readsAsPlain(t, spoiled)
			}
		}
	}
}

// P2.2 and R4, R5, R6: nil and empty are the same; the bytes are neither changed nor kept, nor is the spare room looked at.
func TestReadMemory(t *testing.T) {
	fails(t, "", api.ErrNestShort)
	if _, _, e := nest.First(nil); e != api.ErrNestShort {
		t.Error("R4: nil:", e)
	}
	full := []byte("\xcc\x83cat\xc2\x01\x80\x83dog\x05rest")
	room := bytes.Clone(full)
	want := list(text("cat"), list(text("\x01"), text("")), text("dog"), text("\x05"))
	const size = 13
	x, n, e := nest.First(room[:size])
	y, f := nest.Decode(room[:size])
	if e != api.OK || f != api.OK || n != size || !same(x, want) || !same(y, want) {
		t.Fatal("P2.2:", x, n, e, f)
	}
	if !bytes.Equal(room, full) {
		t.Error("R5: the bytes, or their spare room, were changed")
	}
	scribble(room)
	if !same(x, want) || !same(y, want) {
		t.Error("R5: the bytes were kept")
	}
	scribbleItem(x)
	if !same(y, want) {
		t.Error("R5: two answers share memory")
	}
	if _, e := nest.Decode(full[:size-1]); e != api.ErrNestShort {
		t.Error("R6: the spare room was looked at:", e)
	}
}

// R5: no two lists of one answer share memory, spare room and all.
func TestReadListsApart(t *testing.T) {
	want := list(text("cat"), list(text("\x01"), text(""), list(text("ab"))), text("dog"), text("\x05"))
	b := plainEncode(want)
	for i := range want.Items {
		x, _ := nest.Decode(b)
		scribbleItem(x.Items[i])
		x.Items[i] = want.Items[i]
		if !same(x, want) {
			t.Error("R5: item", i, "shares memory with another one")
		}
	}
	x, _ := nest.Decode(b)
	for i := range x.Items {
		x.Items[i].Bytes = append(x.Items[i].Bytes, "more"...)
		x.Items[i].Bytes = x.Items[i].Bytes[:len(want.Items[i].Bytes)]
		x.Items[i].Items = append(x.Items[i].Items, text("more"))[:len(want.Items[i].Items)]
	}
	if !same(x, want) {
		t.Error("R5: a list goes on in another one")
	}
}

// scribbleItem writes over all that stands in an item, and over all spare room.
func scribbleItem(x api.Item) {
	for _, y := range x.Items {
		scribbleItem(y)
	}
	scribble(x.Bytes)
	for i := range x.Items[:cap(x.Items)] {
		x.Items[:cap(x.Items)][i] = text("scribble")
	}
}
