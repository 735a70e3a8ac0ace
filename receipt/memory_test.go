package receipt_test

import (
	"bytes"
	"slices"
	"testing"

	"pergola/api"
	"pergola/receipt"
)

// scribble writes over a list and its spare room.
func scribble(b []byte) {
	all := b[:cap(b)]
	for i := range all {
		all[i] ^= 0xa5
	}
}

// scribbleList writes over receipts, and over those in the spare room.
func scribbleList(l []api.Receipt) {
	all := l[:cap(l)]
	for i := range all {
		all[i] = ended(-1, m, m, m)
	}
}

// roomy is a copy with spare room behind its end, and both together. The room has what may be taken for more of the list.
func roomy[T any](l []T, more T) (given, all []T) {
	all = append(slices.Clone(l), slices.Repeat([]T{more}, 60)...)
	return all[:len(l)], all
}

// texts are bytes that Decode takes, and some that it refuses.
func texts() [][]byte {
	l := [][]byte{nil, {0}, {0x80}, {0xc0}, {0xc4}, {0xc4, 0x80, 0x80, 0x80}, unhex("c4 0a 80 80 80"), unhex("c4 02 80 01 80"), unhex("c4 01 80 80 01")}
	for _, r := range few() {
		b := plainEncode(r)
		l = append(l, b, b[1:], b[:len(b)-1], append(bytes.Clone(b), 0x80))
	}
	return l
}

// rows are lists that Root takes, and some that it refuses; of the Gas of some the sum leaves 64 bits.
func rows() [][]api.Receipt {
	l := [][]api.Receipt{nil, few(), fewWrongs(), many(1, 20), used(1, 2, 3), used(m, 1), used(m-1, 1)}
	for _, r := range fewWrongs() {
		l = append(l, []api.Receipt{r}, []api.Receipt{{Gas: 5}, r})
	}
	for _, r := range few() {
		l = append(l, []api.Receipt{r}, []api.Receipt{{Gas: 5}, r})
	}
	return l
}

// told asks that Root and Gas of a list are those of the plain ones.
func told(t *testing.T, why string, given, plain []api.Receipt) {
	t.Helper()
	want, isRight := plainRoot(plain)
	if d, e := receipt.Root(given); d != want || (e == api.OK) != isRight {
		t.Fatalf("R5: %s: Root of %+v = %x %d, not %x", why, plain, d, e, want)
	}
	sum, fits := plainGas(plain)
	if n, ok := receipt.Gas(given); n != sum || ok != fits {
		t.Fatalf("R5: %s: Gas of %+v = %d %v, not %d %v", why, plain, n, ok, sum, fits)
	}
}

func TestR5ListsThatAreHandedInStayAsTheyAre(t *testing.T) {
	for _, l := range rows() {
		for _, more := range []api.Receipt{{Gas: 9}, {Status: -1, Gas: m, Result: 1, Made: 1}} {
			given, all := roomy(l, more)
			want := slices.Clone(all)
			told(t, "spare room", given, l)
			if !slices.Equal(all, want) {
				t.Fatalf("R5: %+v, or its spare room, was changed", l)
			}
			scribbleList(all)
			told(t, "written over", slices.Clone(l), l)
		}
	}
}

func TestR5BytesThatAreHandedInStayAsTheyAre(t *testing.T) {
	for _, b := range texts() {
		for _, more := range []byte{0, 1, 0x80, 0xc4} {
			given, all := roomy(b, more)
			kept := bytes.Clone(all)
			r, e := receipt.Decode(given)
			if !bytes.Equal(all, kept) {
				t.Fatalf("R5: %x, or its spare room, was changed", b)
			}
			scribble(all)
			again, eAgain := receipt.Decode(b)
			if want, ok := plainDecode(b); r != want || again != want || (e == api.OK) != ok || e != eAgain {
				t.Fatalf("R5: Decode(%x) with spare room = %+v %d; later %+v %d", b, r, e, again, eAgain)
			}
		}
	}
}

func TestR5WritingOverAnEncodingIsNotSeen(t *testing.T) {
	for _, r := range few() {
		given := r
		first, _ := receipt.Encode(given)
		second, _ := receipt.Encode(given)
		behind := append(first, "behind"...)
		scribble(first)
		scribble(behind)
		third, _ := receipt.Encode(given)
		if !bytes.Equal(second, plainEncode(r)) || !bytes.Equal(third, plainEncode(r)) || given != r {
			t.Fatalf("R5: writing over the encoding of %+v is seen elsewhere", r)
		}
		told(t, "an encoding written over", []api.Receipt{given}, []api.Receipt{r})
	}
}

// What is told is its owner's: what is written into it is not seen in what is told of the same later.
func TestR5WritingOverWhatWasToldIsNotSeen(t *testing.T) {
	for _, want := range few() {
		b := plainEncode(want)
		r, _ := receipt.Decode(b)
		r.Status, r.Gas, r.Result, r.Made = -1, 1, 2, 3
		if again, e := receipt.Decode(b); again != want || e != api.OK || !bytes.Equal(b, plainEncode(want)) {
			t.Fatalf("R5: writing over what was read of %x is seen: %+v %d", b, again, e)
		}
		d, _ := receipt.Root([]api.Receipt{want})
		scribble(d[:])
		told(t, "a root written over", []api.Receipt{want}, []api.Receipt{want})
	}
	d, _ := receipt.Root(nil)
	scribble(d[:])
	told(t, "the root of none written over", nil, nil)
}

// The same is told of the same, whatever was asked in between.
func TestR6OneAnswer(t *testing.T) {
	lists, bytesOf, one := rows(), texts(), append(few(), fewWrongs()...)
	others := func() {
		for _, l := range lists[:8] {
			receipt.Root(l)
			receipt.Gas(l)
		}
		for _, b := range bytesOf {
			receipt.Decode(b)
		}
		for _, r := range one {
			receipt.Right(r)
			receipt.Encode(r)
		}
	}
	for _, b := range bytesOf {
		r, e := receipt.Decode(b)
		others()
		if again, eAgain := receipt.Decode(b); again != r || eAgain != e {
			t.Fatalf("R6: Decode(%x) = %+v %d, then %+v %d", b, r, e, again, eAgain)
		}
	}
	for _, r := range one {
		b, e := receipt.Encode(r)
		others()
		if again, eAgain := receipt.Encode(r); !bytes.Equal(again, b) || eAgain != e || receipt.Right(r) != (e == api.OK) {
			t.Fatalf("R6: Encode(%+v) = %x %d, then %x %d", r, b, e, again, eAgain)
		}
	}
	for _, l := range lists {
		others()
		told(t, "asked later", l, l)
	}
}
