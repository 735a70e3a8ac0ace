package tx_test

import (
	"bytes"
	"slices"
	"testing"

	"pergola/api"
	"pergola/tx"
)

// scribble writes over a list and its spare room.
func scribble[T byte | uint64](l []T) {
	all := l[:cap(l)]
	for i := range all {
		all[i] ^= 0xa5
	}
}

// roomy is a copy with spare room behind its end, and both together. The room has what may be taken for more of the list.
func roomy[T byte | uint64](l []T) (given, all []T) {
	all = append(slices.Clone(l), slices.Repeat([]T{1}, 300)...)
	return all[:len(l)], all
}

// roomyTx is a transaction of the same things, with lists that have spare room.
func roomyTx(t api.Tx) (given api.Tx, input []uint64, code []byte) {
	given = t
	given.Input, input = roomy(t.Input)
	given.Code, code = roomy(t.Code)
	return given, input, code
}

// anyTxs are transactions that are Right, and some that are not.
func anyTxs() []api.Tx {
	return append(few(), api.Tx{Code: []byte{1}}, api.Tx{Make: true, To: 1, Code: []byte{1}}, api.Tx{Make: true, Input: []uint64{1}},
		api.Tx{Input: repeat(1, 9)}, api.Tx{Make: true, Code: make([]byte, 257)}, api.Tx{Input: repeat(m, 20), Code: make([]byte, 1000)})
}

// texts are bytes that Decode takes, and some that it refuses.
func texts() [][]byte {
	all := [][]byte{nil, {0}, {0x80}, {0xc0}, {0xc9}}
	for _, t := range anyTxs() {
		b := plainEncode(t)
		all = append(all, b, b[1:], b[:len(b)-1], append(bytes.Clone(b), 0x80))
	}
	return all
}

func TestR5TransactionsThatAreHandedInStayAsTheyAre(t *testing.T) {
	for _, u := range anyTxs() {
		given, input, code := roomyTx(u)
		wantInput, wantCode := slices.Clone(input), bytes.Clone(code)
		right, least := tx.Right(given), tx.Least(given)
		fee, ok := tx.Fee(given)
		b, e := tx.Encode(given)
		if !slices.Equal(input, wantInput) || !bytes.Equal(code, wantCode) || !same(given, u) {
			t.Fatalf("R5: %+v, or its spare room, was changed", u)
		}
		// The spare room isn't read, either.
		wantFee, wantOK := plainFee(u)
		if right != plainRight(u) || least != plainLeast(u) || fee != wantFee || ok != wantOK || (e == api.OK) != right {
			t.Fatalf("R5: %+v with spare room: %v %d %d %v %d", u, right, least, fee, ok, e)
		}
		if right && !bytes.Equal(b, plainEncode(u)) {
			t.Fatalf("R5: Encode(%+v) with spare room = %x", u, b)
		}
	}
}

func TestR5TransactionsThatAreHandedInAreNotKept(t *testing.T) {
	for _, u := range few() {
		given, input, code := roomyTx(u)
		b, _ := tx.Encode(given)
		scribble(input)
		scribble(code)
		if !bytes.Equal(b, plainEncode(u)) {
			t.Fatalf("R5: writing over %+v is seen in its encoding, %x", u, b)
		}
		if again, _ := tx.Encode(u); !bytes.Equal(again, plainEncode(u)) {
			t.Fatalf("R5: writing over %+v is seen later, %x", u, again)
		}
	}
}

func TestR5WritingOverAnEncodingIsNotSeen(t *testing.T) {
	for _, u := range few() {
		given, input, code := roomyTx(u)
		wantInput, wantCode := slices.Clone(input), bytes.Clone(code)
		first, _ := tx.Encode(given)
		second, _ := tx.Encode(given)
		behind := append(first, "behind"...)
		scribble(first)
		scribble(behind)
		third, _ := tx.Encode(given)
		if !bytes.Equal(second, plainEncode(u)) || !bytes.Equal(third, plainEncode(u)) {
			t.Fatalf("R5: writing over the encoding of %+v is seen in other ones", u)
		}
		if !slices.Equal(input, wantInput) || !bytes.Equal(code, wantCode) {
			t.Fatalf("R5: writing over the encoding of %+v is seen in it", u)
		}
	}
}

func TestR5BytesThatAreHandedInStayAsTheyAre(t *testing.T) {
	for _, b := range texts() {
		given, all := roomy(b)
		want := bytes.Clone(all)
		u, e := tx.Decode(given)
		if !bytes.Equal(all, want) {
			t.Fatalf("R5: %x, or its spare room, was changed", b)
		}
		if plain, ok := plainDecode(b); !same(u, plain) || (e == api.OK) != ok {
			t.Fatalf("R5: Decode(%x) with spare room = %+v %d", b, u, e)
		}
	}
}

func TestR5BytesThatAreHandedInAreNotKept(t *testing.T) {
	for _, b := range texts() {
		given, all := roomy(b)
		u, e := tx.Decode(given)
		scribble(all)
		again, eAgain := tx.Decode(b)
		if want, ok := plainDecode(b); !same(u, want) || !same(again, want) || (e == api.OK) != ok || eAgain != e {
			t.Fatalf("R5: writing over %x is seen in %+v, or in %+v", b, u, again)
		}
	}
}

// Input and Code of one answer, of another one, and the bytes that were read: none shows what is written into one of them, nor behind its end.
func TestR5WritingOverWhatWasReadIsNotSeen(t *testing.T) {
	for _, want := range few() {
		b := plainEncode(want)
		given, all := roomy(b)
		kept := bytes.Clone(all)
		first, _ := tx.Decode(given)
		second, _ := tx.Decode(given)
		behind := append(first.Input, 1, 2, 3)
		scribble(first.Input)
		scribble(behind)
		if !bytes.Equal(first.Code, want.Code) {
			t.Fatalf("R5: writing over the Input of %+v is seen in its Code", want)
		}
		input := slices.Clone(first.Input)
		more := append(first.Code, "behind"...)
		scribble(first.Code)
		scribble(more)
		if !slices.Equal(first.Input, input) {
			t.Fatalf("R5: writing over the Code of %+v is seen in its Input", want)
		}
		third, _ := tx.Decode(given)
		if !same(second, want) || !same(third, want) || !bytes.Equal(all, kept) {
			t.Fatalf("R5: writing over what was read of %x is seen elsewhere", b)
		}
	}
}

// The same is told of the same, whatever was asked in between.
func TestR6OneAnswer(t *testing.T) {
	others := func() {
		for _, u := range anyTxs() {
			tx.Encode(u)
			tx.Least(u)
			tx.Fee(u)
			tx.Made(u.From, u.Nonce)
		}
		for _, b := range texts() {
			tx.Decode(b)
		}
	}
	for _, b := range texts() {
		u, e := tx.Decode(b)
		others()
		if again, eAgain := tx.Decode(b); !same(again, u) || eAgain != e {
			t.Fatalf("R6: Decode(%x) = %+v %d, then %+v %d", b, u, e, again, eAgain)
		}
	}
	for _, u := range anyTxs() {
		b, e := tx.Encode(u)
		made := tx.Made(u.From, u.Nonce)
		others()
		if again, eAgain := tx.Encode(u); !bytes.Equal(again, b) || eAgain != e || tx.Made(u.From, u.Nonce) != made {
			t.Fatalf("R6: Encode(%+v) = %x %d, then %x %d", u, b, e, again, eAgain)
		}
	}
}
