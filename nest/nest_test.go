package nest_test

import (
	"bytes"
	"testing"

	"pergola/api"
	"pergola/nest"
)

// P2.4: Text has these bytes, in memory of its own.
func TestText(t *testing.T) {
	for _, b := range [][]byte{nil, {}, {0}, {0x80}, []byte("dog"), make([]byte, 300)} {
		if x := nest.Text(b); !same(x, text(string(b))) {
			t.Errorf("P2.4: Text(%x) = %v", b, x)
		}
	}
	room := []byte("abcdef")
	x, y := nest.Text(room[:3]), nest.Text(room[:3])
	scribble(x.Bytes)
	if string(room) != "abcdef" || !same(y, text("abc")) {
		t.Error("R5: what Text answered shares memory")
	}
	scribble(room)
	if !same(y, text("abc")) {
		t.Error("R5: the bytes were kept")
	}
}

// P2.4: Text takes whatever it is given: also what is too long to be written.
func TestTextOfTooMuch(t *testing.T) {
	b := make([]byte, api.MaxBytes+1)
	b[api.MaxBytes] = 7
	x := nest.Text(b)
	if x.List || len(x.Items) != 0 || !bytes.Equal(x.Bytes, b) {
		t.Error("P2.4: a long text")
	}
	if nest.Right(x) {
		t.Error("P2.1: a text of too many bytes is Right")
	}
}

// P2.4: List has these items, any number of them, as they are: also wrong ones.
func TestList(t *testing.T) {
	a, b, c := text("a"), list(text("b")), listWithByte
	if x := nest.List(); !same(x, list()) {
		t.Error("P2.4: the list of nothing:", x)
	}
	if x := nest.List([]api.Item{}...); !same(x, list()) {
		t.Error("P2.4: the list of nothing:", x)
	}
	for _, l := range [][]api.Item{nil, {a}, {b}, {a, b}, {b, a}, {a, a, a}, {c, textWithItem, b}, times(1000, a).Items, {deep(20)}} {
		if x := nest.List(l...); !same(x, list(l...)) {
			t.Error("P2.4: List of", len(l), "items")
		}
	}
	if x := nest.List(a, nest.List(b, nest.List())); !same(x, list(a, list(b, list()))) {
		t.Error("P2.4: lists of lists:", x)
	}
}

// P2.4 and R5: the list's places are its own; what stands in its items is not copied.
func TestListMemory(t *testing.T) {
	room := []api.Item{text("a"), list(text("b")), text("spare")}
	x := nest.List(room[:2]...)
	inner := room[0].Bytes
	room[0] = text("other")
	if !same(x, list(text("a"), list(text("b")))) {
		t.Error("R5: the slice was kept")
	}
	y := nest.List(room[:2]...)
	x.Items[1] = text("x")
	x.Items = append(x.Items, text("more"))
	if !same(room[1], list(text("b"))) || !same(room[2], text("spare")) || !same(y, list(text("other"), list(text("b")))) {
		t.Error("R5: the slice, its spare room, or another answer was changed")
	}
	inner[0] = 'z'
	if !same(x.Items[0], text("z")) {
		t.Error("P2.4: what stands in the items was copied")
	}
}

// P2.5: Decode of Encode is the item, and Encode of that are the bytes; First says the same with any bytes behind them.
func TestThereAndBack(t *testing.T) {
	for i, x := range samples() {
		b, e := nest.Encode(x)
		if e != api.OK {
			t.Fatal("P2.5: sample", i, e)
		}
		y, e := nest.Decode(b)
		if e != api.OK || !same(x, y) {
			t.Errorf("P2.5: sample %d: decoded otherwise: %d", i, e)
		}
		if again, e := nest.Encode(y); e != api.OK || !bytes.Equal(again, b) {
			t.Errorf("P2.5: sample %d: encoded again otherwise: %d", i, e)
		}
		for _, more := range []string{"\x00", "\x7f", "\x80", "\xb8", "\xc0", "\xff", "dog", string(b)} {
			z, n, e := nest.First(append(bytes.Clone(b), more...))
			if e != api.OK || n != len(b) || !same(x, z) {
				t.Errorf("P2.5: sample %d with %.5x behind it: %d, %d", i, more, n, e)
			}
		}
	}
}

// P2.5: unlike items have unlike encodings, and none is the beginning of another one's.
func TestNoEncodingBeginsAnother(t *testing.T) {
	var items []api.Item
	var texts [][]byte
	for _, x := range samples() {
		if b, _ := nest.Encode(x); len(b) < 300 {
			items, texts = append(items, x), append(texts, b)
		}
	}
	for i := range texts {
		for j := range texts {
			if !same(items[i], items[j]) && bytes.HasPrefix(texts[j], texts[i]) {
				t.Fatalf("P2.5: %.20x.. begins %.20x..", texts[i], texts[j])
			}
		}
	}
}

// P2.6: the body of a list's encoding are its items' encodings, one behind the other.
func TestBodyOfAList(t *testing.T) {
	for i, x := range samples() {
		var body []byte
		for _, y := range x.Items {
			b, e := nest.Encode(y)
			if e != api.OK {
				t.Fatal("P2.6: sample", i, e)
			}
			body = append(body, b...)
		}
		whole, e := nest.Encode(x)
		if x.List && (e != api.OK || !bytes.HasSuffix(whole, body) || len(whole)-len(body) > 4 || len(whole) == len(body)) {
			t.Errorf("P2.6: sample %d: %.20x.. and the body %.20x..", i, whole, body)
		}
	}
}
