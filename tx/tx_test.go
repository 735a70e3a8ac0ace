package tx_test

import (
	"bytes"
	"testing"

	"pergola/api"
	"pergola/tx"
)

func TestP161RightAtEachEdge(t *testing.T) {
	for why, c := range map[string]struct {
		t    api.Tx
		want bool
	}{
		"the zero one":                            {api.Tx{}, true},
		"no code, Make":                           {api.Tx{Make: true}, true},
		"no code, not Make":                       {api.Tx{From: 1, To: 2, Code: []byte{}}, true},
		"one byte of code, Make":                  {api.Tx{Make: true, Code: []byte{0}}, true},
		"one byte of code, not Make":              {api.Tx{Code: []byte{0}}, false},
		"one byte of code, to somebody, not Make": {api.Tx{To: 2, Code: []byte{1}}, false},
		"MaxCode bytes, Make":                     {api.Tx{Make: true, Code: make([]byte, 256)}, true},
		"MaxCode bytes, not Make":                 {api.Tx{Code: make([]byte, 256)}, false},
		"MaxCode bytes and one, Make":             {api.Tx{Make: true, Code: make([]byte, 257)}, false},
		"MaxCode bytes and one, not Make":         {api.Tx{Code: make([]byte, 257)}, false},
		"one word, not Make":                      {api.Tx{Input: []uint64{0}}, true},
		"no word, Make":                           {api.Tx{Make: true, Input: []uint64{}}, true},
		"one word, Make":                          {api.Tx{Make: true, Input: []uint64{0}}, false},
		"MaxInput words, not Make":                {api.Tx{Input: make([]uint64, 8)}, true},
		"MaxInput words, Make":                    {api.Tx{Make: true, Input: make([]uint64, 8)}, false},
		"MaxInput words and one, not Make":        {api.Tx{Input: make([]uint64, 9)}, false},
		"MaxInput words and one, Make":            {api.Tx{Make: true, Input: make([]uint64, 9)}, false},
		"Make with To 1":                          {api.Tx{Make: true, To: 1}, false},
		"Make with the last To":                   {api.Tx{Make: true, To: m}, false},
		"Make with To 1, and code":                {api.Tx{Make: true, To: 1, Code: []byte{0}}, false},
		"Make with one word, and code":            {api.Tx{Make: true, Input: []uint64{1}, Code: []byte{0}}, false},
		"one word and one byte, not Make":         {api.Tx{Input: []uint64{1}, Code: []byte{1}}, false},
	} {
		if got := tx.Right(c.t); got != c.want {
			t.Errorf("P16.1: Right of %s = %v", why, got)
		}
	}
}

func TestP161RightOfEachShape(t *testing.T) {
	for _, u := range shapes() {
		if got, want := tx.Right(u), plainRight(u); got != want {
			t.Fatalf("P16.1: Right of %d words, %d bytes, To %d, Make %v = %v", len(u.Input), len(u.Code), u.To, u.Make, got)
		}
	}
	for _, u := range samples() {
		if !tx.Right(u) {
			t.Fatalf("P16.1: Right(%+v) = false", u)
		}
	}
}

// What the words are nobody asks, but for the To of one that makes.
func TestP161RightAsksForNoOtherWord(t *testing.T) {
	for place := range wordThings {
		for _, n := range edges() {
			if !tx.Right(with(api.Tx{}, place, n)) {
				t.Errorf("P16.1: Right is false with %d at the place %d", n, place)
			}
			if got, want := tx.Right(with(api.Tx{Make: true, Code: []byte{7}}, place, n)), place != 4 || n == 0; got != want {
				t.Errorf("P16.1: Right of one that makes is %v with %d at the place %d", got, n, place)
			}
			if tx.Right(with(api.Tx{Code: []byte{7}}, place, n)) {
				t.Errorf("P16.1: Right of code without Make, with %d at the place %d", n, place)
			}
		}
	}
}

func TestP163Least(t *testing.T) {
	for _, c := range []struct {
		t    api.Tx
		want uint64
	}{
		{api.Tx{}, 100},
		{api.Tx{Make: true}, 100},
		{api.Tx{From: m, Nonce: m, Gas: m, Price: m, To: m, Value: m}, 100},
		{api.Tx{From: 1, Gas: 200, Input: []uint64{0, 256}}, 108},
		{api.Tx{From: 1, Make: true, Code: []byte{0}}, 102},
		{api.Tx{Input: []uint64{m}}, 104},
		{api.Tx{Input: make([]uint64, 8)}, 132},
		{api.Tx{Make: true, Code: make([]byte, 256)}, 612},
		// None of these is Right.
		{api.Tx{Code: []byte{0xff}}, 102},
		{api.Tx{Make: true, To: 1, Code: []byte{1, 2, 3}}, 106},
		{api.Tx{Make: true, Input: []uint64{1}}, 104},
		{api.Tx{Input: make([]uint64, 9)}, 136},
		{api.Tx{Make: true, Code: make([]byte, 257)}, 614},
		{api.Tx{Input: make([]uint64, 3), Code: make([]byte, 5)}, 122},
		{api.Tx{Input: make([]uint64, 1000), Code: make([]byte, 100000)}, 204100},
	} {
		if got := tx.Least(c.t); got != c.want {
			t.Errorf("P16.3: Least with %d words, %d bytes = %d, not %d", len(c.t.Input), len(c.t.Code), got, c.want)
		}
	}
	for _, u := range append(shapes(), samples()...) {
		if got, want := tx.Least(u), plainLeast(u); got != want {
			t.Fatalf("P16.3: Least with %d words, %d bytes = %d, not %d", len(u.Input), len(u.Code), got, want)
		}
	}
}

func TestP163Fee(t *testing.T) {
	for _, c := range []struct {
		gas, price, want uint64
		ok               bool
	}{
		{0, 0, 0, true}, {0, m, 0, true}, {m, 0, 0, true}, {100, 2, 200, true},
		{1 << 32, 1 << 31, 1 << 63, true}, {1 << 32, 1 << 32, 0, false},
		{1, m, m, true}, {m, 1, m, true}, {3, 6148914691236517205, m, true}, {1<<32 - 1, 1<<32 + 1, m, true}, {641, 28778071877862015, m, true},
		{2, 1 << 63, 0, false}, {1 << 63, 2, 0, false}, {4, 1 << 62, 0, false}, {274177, 67280421310721, 0, false},
		{m, 2, 0, false}, {2, m, 0, false}, {m, m, 0, false}, {1<<32 + 1, 1<<32 + 1, 0, false}, {2, 1<<63 - 1, m - 1, true},
	} {
		if got, ok := tx.Fee(api.Tx{Gas: c.gas, Price: c.price}); got != c.want || ok != c.ok {
			t.Errorf("P16.3: Fee of %d at %d = %d %v, not %d %v", c.gas, c.price, got, ok, c.want, c.ok)
		}
	}
	for _, gas := range edges() {
		for _, price := range edges() {
			// Nothing else is asked for, nor whether the transaction is Right.
			for _, u := range []api.Tx{{}, {From: m, Nonce: m, To: m, Value: m, Input: repeat(m, 9), Make: true, Code: make([]byte, 257)}} {
				u.Gas, u.Price = gas, price
				got, ok := tx.Fee(u)
				if want, wantOK := plainFee(u); got != want || ok != wantOK {
					t.Errorf("P16.3: Fee of %d at %d = %d %v, not %d %v", gas, price, got, ok, want, wantOK)
				}
			}
		}
	}
}

func TestP163MadeOfUnlikeSendersAndNonces(t *testing.T) {
	for _, c := range []struct{ from, nonce, want uint64 }{
		{0, 0, 0xe6644abdf7c6420b},
		{1, 0, 0xd30c11ac400dfe91},
		{0, 1, 0xf590d98eb2aaa3ee},
		{1, 1, 0x800f35a991afb7ab},
		{2, 0, 0x74e06904d6bba8d3},
		{256, 0, 0x79d52367f28c26f6},
		{0, 256, 0xfc8eeb251546f822},
		{1, m, 0xff6f01f16bc6ed5b},
		{m, 1, 0xa05b30ab1efb5dd0},
		{m, 0, 0x21004fc046f2276e},
		{0, m, 0x19cc0860a697ce5f},
		{m, m, 0xb5233206b93fdbee},
		{1 << 63, 1 << 32, 0x0e528476c8d815fd},
	} {
		if got := tx.Made(c.from, c.nonce); got != c.want {
			t.Errorf("P16.3: Made(%d, %d) = %x, not %x", c.from, c.nonce, got, c.want)
		}
	}
	for _, from := range edges() {
		for _, nonce := range edges() {
			if got, want := tx.Made(from, nonce), plainMade(from, nonce); got != want {
				t.Errorf("P16.3: Made(%d, %d) = %x, not %x", from, nonce, got, want)
			}
		}
	}
}

func TestP165TheMostThatLeastMayBe(t *testing.T) {
	made, called := uint64(0), uint64(0)
	for _, u := range append(shapes(), samples()...) {
		switch {
		case !tx.Right(u):
		case u.Make:
			made = max(made, tx.Least(u))
		default:
			called = max(called, tx.Least(u))
		}
	}
	// Just these are reached.
	if made != 100+2*api.MaxCode || called != 100+4*api.MaxInput {
		t.Errorf("P16.5: Least is %d at most of one that makes code, %d of one that calls", made, called)
	}
}

func TestR4NilAndEmptyAreTheSame(t *testing.T) {
	for _, isMake := range []bool{false, true} {
		a, b := api.Tx{From: 5, Make: isMake}, api.Tx{From: 5, Make: isMake, Input: []uint64{}, Code: []byte{}}
		first, e1 := tx.Encode(a)
		second, e2 := tx.Encode(b)
		if !bytes.Equal(first, second) || e1 != api.OK || e2 != api.OK || !tx.Right(a) || !tx.Right(b) || tx.Least(a) != tx.Least(b) {
			t.Errorf("R4: %x %d and %x %d", first, e1, second, e2)
		}
	}
}
