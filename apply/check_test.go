package apply_test

import (
	"fmt"
	"slices"
	"testing"

	"pergola/api"
	"pergola/apply"
	"pergola/state"
)

// checkWorld: 1 has 1000 and the nonce 5; 2 has the greatest nonce; 3 the one below it; 4 has the greatest balance; 5 one less; 6 has a nonce alone; 7 is not there.
func checkWorld() world {
	return sparse(map[uint64]holding{
		1: {5, 1000, ""}, 2: {most, most, ""}, 3: {most - 1, 1000, ""}, 4: {0, most, coded("stop")}, 5: {0, most - 1, ""}, 6: {9, 0, ""},
	})
}

// wordsOf are so many words, and bytesOfCode so many bytes, with one to spare behind them.
func wordsOf(n int) []uint64 { return slices.Repeat([]uint64{3}, n+1)[:n] }

func bytesOfCode(n int) []byte { return slices.Repeat([]byte{0x42}, n+1)[:n] }

// 2^64 - 1 is 257 times this.
const most257 = most / 257

type checkCase struct {
	what    string
	t       api.Tx
	want    api.Errno
	touched int
}

func checkCases() []checkCase {
	l := []checkCase{
		{"all that there is to a call", api.Tx{From: 1, Nonce: 5, Gas: 132, Price: 7, To: 9, Value: 3, Input: wordsOf(8)}, api.OK, 1},
		{"all that there is to a making", api.Tx{From: 1, Nonce: 5, Gas: 612, Price: 1, Value: 3, Make: true, Code: bytesOfCode(256)}, api.OK, 1},
		{"a value that it has not", api.Tx{From: 1, Nonce: 5, Gas: 100, Price: 1, Value: most}, api.OK, 1},

		{"code, but not Make", api.Tx{From: 1, Nonce: 5, Gas: 200, Code: []byte{0}}, api.ErrTxForm, 0},
		{"Make, and To", api.Tx{From: 1, Nonce: 5, Gas: 200, To: 1, Make: true}, api.ErrTxForm, 0},
		{"Make, and an input", api.Tx{From: 1, Nonce: 5, Gas: 200, Make: true, Input: wordsOf(1)}, api.ErrTxForm, 0},
		{"nine words", api.Tx{From: 1, Nonce: 5, Gas: 200, Input: wordsOf(9)}, api.ErrTxForm, 0},
		{"257 bytes", api.Tx{From: 1, Nonce: 5, Gas: 700, Make: true, Code: bytesOfCode(257)}, api.ErrTxForm, 0},

		{"the most gas", api.Tx{From: 1, Nonce: 5, Gas: 20000}, api.OK, 1},
		{"one more", api.Tx{From: 1, Nonce: 5, Gas: 20001}, api.ErrTxMost, 0},
		{"far more", api.Tx{From: 1, Nonce: 5, Gas: most}, api.ErrTxMost, 0},
		{"2^63", api.Tx{From: 1, Nonce: 5, Gas: 1 << 63}, api.ErrTxMost, 0},
		{"no gas", api.Tx{From: 1, Nonce: 5}, api.ErrTxGas, 0},

		{"a nonce one too small", api.Tx{From: 1, Nonce: 4, Gas: 100}, api.ErrTxNonce, 1},
		{"a nonce one too great", api.Tx{From: 1, Nonce: 6, Gas: 100}, api.ErrTxNonce, 1},
		{"no nonce", api.Tx{From: 1, Gas: 100}, api.ErrTxNonce, 1},
		{"the greatest nonce", api.Tx{From: 2, Nonce: most, Gas: 100}, api.ErrTxNonce, 1},
		{"the one behind the greatest", api.Tx{From: 2, Nonce: 0, Gas: 100}, api.ErrTxNonce, 1},
		{"the one below the greatest, where that is due", api.Tx{From: 2, Nonce: most - 1, Gas: 100}, api.ErrTxNonce, 1},
		{"the greatest but one", api.Tx{From: 3, Nonce: most - 1, Gas: 100}, api.OK, 1},
		{"the greatest, too early", api.Tx{From: 3, Nonce: most, Gas: 100}, api.ErrTxNonce, 1},
		{"nobody", api.Tx{From: 7, Gas: 100}, api.OK, 1},
		{"nobody, with a nonce", api.Tx{From: 7, Nonce: 1, Gas: 100}, api.ErrTxNonce, 1},
		{"the greatest address", api.Tx{From: most, Gas: 100}, api.OK, 1},

		{"just the balance", api.Tx{From: 1, Nonce: 5, Gas: 100, Price: 10}, api.OK, 1},
		{"one gas more", api.Tx{From: 1, Nonce: 5, Gas: 101, Price: 10}, api.ErrTxFunds, 1},
		{"one more a gas", api.Tx{From: 1, Nonce: 5, Gas: 100, Price: 11}, api.ErrTxFunds, 1},
		{"one more than the balance", api.Tx{From: 1, Nonce: 5, Gas: 143, Price: 7}, api.ErrTxFunds, 1},
		{"no balance", api.Tx{From: 6, Nonce: 9, Gas: 100, Price: 1}, api.ErrTxFunds, 1},
		{"no balance, at no price", api.Tx{From: 6, Nonce: 9, Gas: 20000}, api.OK, 1},
		{"nobody's balance", api.Tx{From: 7, Gas: 100, Price: 1}, api.ErrTxFunds, 1},
		{"just the greatest balance", api.Tx{From: 4, Gas: 257, Price: most257}, api.OK, 1},
		{"one more than the greatest but one", api.Tx{From: 5, Gas: 257, Price: most257}, api.ErrTxFunds, 1},
		{"a fee of 2^64", api.Tx{From: 4, Gas: 1 << 14, Price: 1 << 50}, api.ErrTxFunds, 1},
		{"a fee of 2^64 and a little", api.Tx{From: 4, Gas: 257, Price: most257 + 1}, api.ErrTxFunds, 1},
		{"a fee of some 2^78", api.Tx{From: 4, Gas: 20000, Price: most}, api.ErrTxFunds, 1},
		{"a fee that would wrap to one that it has", api.Tx{From: 1, Nonce: 5, Gas: 1 << 14, Price: 1 << 60}, api.ErrTxFunds, 1},
	}
	for n := range api.MaxInput + 1 {
		least := uint64(100 + 4*n)
		x := api.Tx{From: 1, Nonce: 5, Gas: least, Price: 1, Input: wordsOf(n)}
		l = append(l, checkCase{fmt.Sprint("just enough gas for words: ", n), x, api.OK, 1})
		x.Gas--
		l = append(l, checkCase{fmt.Sprint("not enough gas for words: ", n), x, api.ErrTxGas, 0})
	}
	for _, n := range []int{0, 1, 2, 100, 255, 256} {
		least := uint64(100 + 2*n)
		x := api.Tx{From: 1, Nonce: 5, Gas: least, Price: 1, Make: true, Code: bytesOfCode(n)}
		l = append(l, checkCase{fmt.Sprint("just enough gas for bytes: ", n), x, api.OK, 1})
		x.Gas--
		l = append(l, checkCase{fmt.Sprint("not enough gas for bytes: ", n), x, api.ErrTxGas, 0})
	}
	return l
}

func TestP171Check(t *testing.T) {
	for _, k := range checkCases() {
		onEach(t, k.what, checkWorld(), func(b both) {
			for range 2 {
				if e := b.check(k.t); e != k.want || b.s.Touched() != k.touched || b.s.Mark() != 0 {
					t.Errorf("P17.1: %s: Check = %d, touched %d, not %d, %d", b.what, e, b.s.Touched(), k.want, k.touched)
				}
			}
		})
	}
}

// Tx answers Check's error, and nothing has changed then.
func TestP172CheckIsAheadOfTx(t *testing.T) {
	for _, k := range checkCases() {
		onEach(t, k.what, checkWorld(), func(b both) {
			r, e := b.tx(k.t, 7, 9)
			if e != k.want || e != api.OK && (r != (api.Receipt{}) || b.s.Touched() != k.touched || b.s.Mark() != 0) {
				t.Errorf("P17.2: %s: Tx = %+v, %d, not %d; touched %d", b.what, r, e, k.want, b.s.Touched())
			}
			b.commit()
		})
	}
}

// A transaction for each choice of faults: the first one is told.
func TestP171TheFirstFault(t *testing.T) {
	for choice := range 64 {
		has := func(fault int) bool { return choice>>fault&1 == 1 }
		x := api.Tx{From: 1, Nonce: 5, Gas: 200, Price: 1, Input: wordsOf(2)}
		want := api.OK
		if has(5) {
			x.Price = most
			want = api.ErrTxFunds
		}
		if has(4) {
			x.Price = 6
			want = api.ErrTxFunds
		}
		if has(3) {
			x.Nonce = 6
			want = api.ErrTxNonce
		}
		if has(2) {
			x.Gas = 107
			want = api.ErrTxGas
		}
		if has(1) {
			x.Gas = 20001
			want = api.ErrTxMost
		}
		if has(0) {
			x.Code = []byte{0}
			want = api.ErrTxForm
		}
		onEach(t, fmt.Sprintf("faults %06b", choice), checkWorld(), func(b both) {
			if e := b.check(x); e != want {
				t.Errorf("P17.1: %s: Check = %d, not %d", b.what, e, want)
			}
			if _, e := b.tx(x, 7, 9); e != want {
				t.Errorf("P17.2: %s: Tx = %d, not %d", b.what, e, want)
			}
		})
	}
}

// A transaction that is not Right is told so, however little gas it has, or much.
func TestP171FormIsAheadOfGas(t *testing.T) {
	for _, gas := range []uint64{0, 99, 100, 20000, 20001, most} {
		for _, x := range []api.Tx{{From: 1, Code: []byte{1}}, {From: 1, Make: true, Code: bytesOfCode(257)}, {From: 1, Make: true, Code: bytesOfCode(20000)}, {From: 1, Input: wordsOf(9)}, {From: 1, Make: true, To: 3}} {
			x.Gas = gas
			onEach(t, "not Right", checkWorld(), func(b both) {
				if e := b.check(x); e != api.ErrTxForm || b.s.Touched() != 0 {
					t.Errorf("P17.1: Check(%+v) = %d, touched %d", x, e, b.s.Touched())
				}
			})
		}
	}
}

// The account is asked for as it is now, not as it was at the beginning.
func TestP171TheAccountAsItIsNow(t *testing.T) {
	for kind, s := range overEach(checkWorld()) {
		x := api.Tx{From: 1, Nonce: 5, Gas: 100, Price: 10}
		for _, k := range []struct {
			nonce, balance uint64
			want           api.Errno
		}{
			{5, 1000, api.OK}, {5, 999, api.ErrTxFunds}, {6, 1000, api.ErrTxNonce}, {4, 5, api.ErrTxNonce}, {5, most, api.OK}, {5, 0, api.ErrTxFunds},
		} {
			s.Set(1, k.nonce, k.balance)
			if e := s.check(x); e != k.want {
				t.Errorf("P17.1: over %s: with %d, %d: Check = %d, not %d", kind, k.nonce, k.balance, e, k.want)
			}
		}
		s.Back(0)
		if e := s.check(x); e != api.OK {
			t.Errorf("P17.1: over %s: behind Back: Check = %d", kind, e)
		}
	}
}

// Who is asked for: From's account alone, and only where the transaction itself is well.
func TestP171WhoIsAskedFor(t *testing.T) {
	for _, k := range checkCases() {
		o := ownOf(checkWorld())
		s := state.New[*tree](o)
		apply.Check(s, k.t)
		var want []string
		if k.touched == 1 {
			want = []string{fmt.Sprintf("account %d", k.t.From)}
		}
		if got := o.calls(); !slices.Equal(got, want) {
			t.Errorf("P17.1: %s: asks for %q, not %q", k.what, got, want)
		}
	}
}

// What the state answers is the answer, where it is asked.
func TestP171TheStateRefuses(t *testing.T) {
	for _, k := range checkCases() {
		for _, e := range someErrors() {
			o := ownOf(checkWorld())
			o.refuse[fmt.Sprintf("account %d", k.t.From)] = e
			s := state.New[*tree](o)
			want := e
			if k.touched == 0 {
				want = k.want
			}
			if got := apply.Check(s, k.t); got != want {
				t.Errorf("P17.1: %s, refused by %d: Check = %d, not %d", k.what, e, got, want)
			}
			if r, got := apply.Tx(s, k.t, 7, 9); got != want || want != api.OK && r != (api.Receipt{}) {
				t.Errorf("P17.2: %s, refused by %d: Tx = %+v, %d, not %d", k.what, e, r, got, want)
			}
		}
	}
}

// someErrors are those that a trie, or a source, may answer.
func someErrors() []api.Errno {
	return []api.Errno{api.ErrWitness, api.ErrArg, api.ErrTrieKey, -1, 12345}
}
