package tx_test

import (
	"bytes"
	"slices"
	"strings"
	"testing"

	"pergola/api"
	"pergola/tx"
)

// isWritten holds both ways against bytes that were worked out by hand.
func isWritten(t *testing.T, u api.Tx, want []byte) {
	t.Helper()
	if b, e := tx.Encode(u); !bytes.Equal(b, want) || e != api.OK {
		t.Errorf("P16.2: Encode(%+v) = %x %d, not %x", u, b, e, want)
	}
	if got, e := tx.Decode(want); !same(got, u) || e != api.OK {
		t.Errorf("P16.2: Decode(%x) = %+v %d, not %+v", want, got, e, u)
	}
}

func TestP162ByteByByte(t *testing.T) {
	eight := strings.Repeat("88ffffffffffffffff", 8)
	for _, c := range []struct {
		t    api.Tx
		want string
	}{
		{api.Tx{}, "c9 80 80 80 80 80 80 c0 80 80"},
		{api.Tx{Make: true}, "c9 80 80 80 80 80 80 c0 01 80"},
		{api.Tx{From: 1, Gas: 100, Price: 2, To: 2, Value: 7}, "c9 01 80 64 02 02 07 c0 80 80"},
		{api.Tx{From: 1, Nonce: 2, Gas: 3, Price: 4, To: 5, Value: 6}, "c9 01 02 03 04 05 06 c0 80 80"},
		{api.Tx{From: 1, Gas: 200, Input: []uint64{0, 256}}, "ce 01 80 81c8 80 80 80 c4 80 820100 80 80"},
		{api.Tx{Input: []uint64{0}}, "ca 80 80 80 80 80 80 c1 80 80 80"},
		{api.Tx{Input: []uint64{1, 127, 128}}, "cd 80 80 80 80 80 80 c4 01 7f 8180 80 80"},
		{api.Tx{From: 1, Make: true, Code: []byte{0}}, "c9 01 80 80 80 80 80 c0 01 00"},
		{api.Tx{Make: true, Code: []byte{0x7f}}, "c9 80 80 80 80 80 80 c0 01 7f"},
		{api.Tx{Make: true, Code: []byte{0x80}}, "ca 80 80 80 80 80 80 c0 01 8180"},
		{api.Tx{Make: true, Code: []byte{0, 0}}, "cb 80 80 80 80 80 80 c0 01 820000"},
		{api.Tx{From: m, Nonce: m, Gas: m, Price: m, To: m, Value: 1<<48 - 1}, "f7" + eight[:90] + "86ffffffffffff c0 80 80"},
		{api.Tx{From: m, Nonce: m, Gas: m, Price: m, To: m, Value: 1<<56 - 1}, "f838" + eight[:90] + "87ffffffffffffff c0 80 80"},
		{api.Tx{Input: []uint64{m, m, m, m, m, m, 1}}, "f840 80 80 80 80 80 80 f7" + eight[:108] + "01 80 80"},
		{api.Tx{Input: []uint64{m, m, m, m, m, m, 1, 0}}, "f842 80 80 80 80 80 80 f838" + eight[:108] + "01 80 80 80"},
		{api.Tx{From: m, Nonce: m, Gas: m, Price: m, To: m, Value: m, Input: repeat(m, 8)}, "f882" + eight[:108] + "f848" + eight + "80 80"},
		{api.Tx{Make: true, Code: make([]byte, 46)}, "f7 80 80 80 80 80 80 c0 01 ae" + strings.Repeat("00", 46)},
		{api.Tx{Make: true, Code: make([]byte, 47)}, "f838 80 80 80 80 80 80 c0 01 af" + strings.Repeat("00", 47)},
		{api.Tx{Make: true, Code: make([]byte, 55)}, "f840 80 80 80 80 80 80 c0 01 b7" + strings.Repeat("00", 55)},
		{api.Tx{Make: true, Code: make([]byte, 56)}, "f842 80 80 80 80 80 80 c0 01 b838" + strings.Repeat("00", 56)},
		{api.Tx{Make: true, Code: make([]byte, 245)}, "f8ff 80 80 80 80 80 80 c0 01 b8f5" + strings.Repeat("00", 245)},
		{api.Tx{Make: true, Code: make([]byte, 246)}, "f90100 80 80 80 80 80 80 c0 01 b8f6" + strings.Repeat("00", 246)},
		{api.Tx{Make: true, Code: make([]byte, 255)}, "f90109 80 80 80 80 80 80 c0 01 b8ff" + strings.Repeat("00", 255)},
		{api.Tx{Make: true, Code: make([]byte, 256)}, "f9010b 80 80 80 80 80 80 c0 01 b90100" + strings.Repeat("00", 256)},
	} {
		isWritten(t, c.t, unhex(c.want))
	}
}

// Each of the six words at its own place, with and without Make; each word of an input.
func TestP162EachWordAtEachPlace(t *testing.T) {
	for n, text := range map[uint64]string{
		0: "80", 1: "01", 127: "7f", 128: "8180", 255: "81ff", 256: "820100", 65535: "82ffff", 65536: "83010000",
		1 << 32: "850100000000", 1<<56 - 1: "87ffffffffffffff", 1 << 56: "880100000000000000", m: "88ffffffffffffffff",
	} {
		word := unhex(text)
		for place := range wordThings {
			parts := [][]byte{{3}, {4}, {5}, {6}, {0x80}, {8}, {0xc0}, {0x80}, {0x80}}
			parts[place] = word
			u := with(api.Tx{From: 3, Nonce: 4, Gas: 5, Price: 6, Value: 8}, place, n)
			isWritten(t, u, append([]byte{192 + 8 + byte(len(word))}, slices.Concat(parts...)...))
			if place == 4 {
				continue
			}
			u.Make, u.Code = true, []byte{9}
			parts[7], parts[8] = []byte{1}, []byte{9}
			isWritten(t, u, append([]byte{192 + 8 + byte(len(word))}, slices.Concat(parts...)...))
		}
		size := byte(len(word))
		isWritten(t, api.Tx{Input: []uint64{n}}, slices.Concat([]byte{192 + 9 + size}, bytes.Repeat([]byte{0x80}, 6), []byte{192 + size}, word, []byte{0x80, 0x80}))
		isWritten(t, api.Tx{Input: []uint64{5, n, 6}}, slices.Concat([]byte{192 + 11 + size}, bytes.Repeat([]byte{0x80}, 6), []byte{192 + 2 + size, 5}, word, []byte{6, 0x80, 0x80}))
	}
}

func TestP162EncodeOfEachTransaction(t *testing.T) {
	for _, u := range samples() {
		if b, e := tx.Encode(u); !bytes.Equal(b, plainEncode(u)) || e != api.OK {
			t.Fatalf("P16.2: Encode(%+v) = %x %d, not %x", u, b, e, plainEncode(u))
		}
	}
}

func TestP162EncodeRefusesWhatIsNotRight(t *testing.T) {
	named := []api.Tx{{Code: []byte{0}}, {Make: true, To: 1}, {Make: true, Input: []uint64{1}}, {Input: make([]uint64, 9)}, {Make: true, Code: make([]byte, 257)}}
	for _, u := range append(named, wrongs()...) {
		if b, e := tx.Encode(u); len(b) != 0 || e != api.ErrTxForm {
			t.Errorf("P16.2: Encode with %d words, %d bytes, To %d, Make %v = %.20x %d", len(u.Input), len(u.Code), u.To, u.Make, b, e)
		}
	}
}

func TestP164ThereAndBack(t *testing.T) {
	for _, u := range samples() {
		b, _ := tx.Encode(u)
		got, e := tx.Decode(b)
		if !same(got, u) || e != api.OK {
			t.Fatalf("P16.4: Decode(Encode(%+v)) = %+v %d", u, got, e)
		}
		if again, e := tx.Encode(got); !bytes.Equal(again, b) || e != api.OK || !tx.Right(got) {
			t.Fatalf("P16.4: Encode(Decode(%x)) = %x %d", b, again, e)
		}
	}
}

func TestP164UnlikeTransactionsHaveUnlikeEncodings(t *testing.T) {
	written := map[string]api.Tx{}
	for _, u := range samples() {
		b, _ := tx.Encode(u)
		if other, ok := written[string(b)]; ok && !same(other, u) {
			t.Fatalf("P16.4: %x is both %+v and %+v", b, other, u)
		}
		written[string(b)] = u
	}
}

// Transactions of any things that Right allows.
func TestP162P164AnyTransactions(t *testing.T) {
	next := roll(16)
	some := edges()
	for range 20000 {
		var u api.Tx
		for _, n := range placesOf(&u) {
			*n = some[next(len(some))]
		}
		if next(2) == 0 {
			u.Make, u.To, u.Code = true, 0, make([]byte, next(api.MaxCode+1))
			for i := range u.Code {
				u.Code[i] = byte(next(256))
			}
		} else {
			for range next(api.MaxInput + 1) {
				u.Input = append(u.Input, some[next(len(some))]>>next(64))
			}
		}
		b, e := tx.Encode(u)
		if !bytes.Equal(b, plainEncode(u)) || e != api.OK {
			t.Fatalf("P16.2: Encode(%+v) = %x %d", u, b, e)
		}
		if got, e := tx.Decode(b); !same(got, u) || e != api.OK {
			t.Fatalf("P16.4: Decode(%x) = %+v %d", b, got, e)
		}
	}
}
