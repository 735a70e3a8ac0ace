package accounts_test

import (
	"bytes"
	"testing"

	"pergola/accounts"
	"pergola/api"
)

// scribble writes over a list and its spare room.
func scribble(b []byte) {
	all := b[:cap(b)]
	for i := range all {
		all[i] ^= 0xa5
	}
}

const spare = "\x01\x02\x03\x04 spare room"

// roomy is a copy with spare room behind its end, and both together.
func roomy(b []byte) (given, all []byte) {
	all = append(bytes.Clone(b), spare...)
	return all[:len(b)], all
}

// texts are bytes that Decode or Read takes, and some that they refuse.
func texts() [][]byte {
	l := [][]byte{nil, {0}, {5}, {0, 1}, {0xc0}}
	for _, a := range few() {
		b := plainEncode(a)
		l = append(l, b, b[1:], b[:len(b)-1], append(bytes.Clone(b), 0), plainWord(a.Nonce), plainWord(a.Balance), append(plainWord(a.Nonce), 9))
	}
	return l
}

func TestR5WhatIsHandedInStaysAsItIs(t *testing.T) {
	for _, b := range texts() {
		given, all := roomy(b)
		accounts.Decode(given)
		accounts.Read(given)
		if string(all) != string(b)+spare {
			t.Fatalf("R5: %x, or its spare room, became %x", b, all)
		}
	}
	for _, a := range samples() {
		given := a
		accounts.Is(given)
		scribble(accounts.Encode(given))
		if given != a {
			t.Fatalf("R5: %+v became %+v", a, given)
		}
	}
}

func TestR5WhatIsHandedInIsNotKept(t *testing.T) {
	for _, b := range texts() {
		want, wantE := accounts.Decode(b)
		word, wordE := accounts.Read(b)
		given, all := roomy(b)
		a, e := accounts.Decode(given)
		n, readE := accounts.Read(given)
		scribble(all)
		if a != want || e != wantE || n != word || readE != wordE {
			t.Fatalf("R5: writing over %x is seen in what was told: %+v, %d", b, a, n)
		}
		a, e = accounts.Decode(b)
		n, readE = accounts.Read(b)
		if a != want || e != wantE || n != word || readE != wordE {
			t.Fatalf("R5: writing over %x is seen later: %+v, %d", b, a, n)
		}
	}
	for _, a := range few() {
		given := a
		b := accounts.Encode(given)
		scribble(given.Code[:])
		scribble(given.Storage[:])
		if !bytes.Equal(b, plainEncode(a)) || !bytes.Equal(accounts.Encode(a), plainEncode(a)) {
			t.Fatalf("R5: writing over %+v is seen in its encoding, %x", a, b)
		}
	}
}

func TestR5WhatIsToldIsNewMemory(t *testing.T) {
	for _, a := range few() {
		first, second := accounts.Encode(a), accounts.Encode(a)
		behind := append(first, "behind"...)
		scribble(first)
		scribble(behind)
		if !bytes.Equal(second, plainEncode(a)) || !bytes.Equal(accounts.Encode(a), plainEncode(a)) {
			t.Fatalf("R5: writing over the encoding of %+v is seen elsewhere", a)
		}
	}
	for _, n := range edges() {
		first, second := accounts.Value(n), accounts.Value(n)
		behind := append(first, "behind"...)
		scribble(first)
		scribble(behind)
		if !bytes.Equal(second, plainWord(n)) || !bytes.Equal(accounts.Value(n), plainWord(n)) {
			t.Fatalf("R5: writing over the value %d is seen elsewhere", n)
		}
	}
}

func TestR5WritingOverAnAccountIsNotSeen(t *testing.T) {
	want := accounts.Empty()
	a := accounts.Empty()
	a.Nonce, a.Balance = 7, 8
	scribble(a.Code[:])
	scribble(a.Storage[:])
	if accounts.Empty() != want || !accounts.Is(want) || accounts.Is(a) {
		t.Errorf("R5: writing over the empty account is seen: %+v", accounts.Empty())
	}
	for _, a := range few() {
		b := plainEncode(a)
		told, _ := accounts.Decode(b)
		scribble(told.Code[:])
		scribble(told.Storage[:])
		if again, e := accounts.Decode(b); again != a || e != api.OK || !bytes.Equal(b, plainEncode(a)) {
			t.Fatalf("R5: writing over what was told of %x is seen: %+v %d", b, again, e)
		}
	}
}

// The same is told of the same, whatever was asked in between.
func TestR6OneAnswer(t *testing.T) {
	for _, b := range texts() {
		a, e := accounts.Decode(b)
		n, readE := accounts.Read(b)
		for _, other := range texts() {
			accounts.Decode(other)
			accounts.Read(other)
		}
		again, againE := accounts.Decode(b)
		word, wordE := accounts.Read(b)
		if again != a || againE != e || word != n || wordE != readE {
			t.Fatalf("R6: of %x: %+v %d, then %+v %d; %d %d, then %d %d", b, a, e, again, againE, n, readE, word, wordE)
		}
	}
}
