package apply_test

import (
	"fmt"
	"slices"
	"testing"

	"pergola/api"
	"pergola/apply"
	"pergola/state"
)

// anyCode is a code of some statements, which mostly find what they need.
func anyCode(d *dice) string {
	text := ""
	for range d.below(6) {
		to := oneOf[uint64](d, 0, 1, 2, 3, 4, 9, plainMade(1, 0), plainMade(2, 2))
		value := oneOf[uint64](d, 0, 0, 1, 300, 5000, most-300, most)
		text += oneOf(d, calling(to, value, 2, most), calling(to, value, 1, 200), fmt.Sprintf("push %d balance ", to),
			fmt.Sprintf("push %d push %d store ", oneOf[uint64](d, 0, 1, 2, 3, 7, most), value), "push 1 push 0 input store ", "push 7 load ",
			fmt.Sprintf("self push 0 push 1 push %d call ", uint64(most)), "caller ", "number ", "value ", "self ", "push 0 input ", "gas ", "push 3 input ", "add ", "pop ")
	}
	text += oneOf(d, "", "", "stop", "return", "push 5 return", "revert", "push 6 revert", "push 7 return", "pop pop pop pop pop pop pop", times(33, "push 1"), "byte 255", "push 0 jump", "mark push 200 jump")
	code := coded(text)
	return code[:min(len(code), api.MaxCode)]
}

func anyBalance(d *dice) uint64 {
	return oneOf[uint64](d, 0, 1, 300, 1000, 5000, 30000, 100000, most-300, most)
}

// anyWorld has some accounts with such codes, poor and rich ones; and mostly nothing where code is made.
func anyWorld(d *dice) world {
	w := world{map[uint64]holding{}, map[place]uint64{}}
	for address := range uint64(5) {
		w.accounts[address] = holding{oneOf[uint64](d, address, address, address, 0, most-1, most), anyBalance(d), anyCode(d)}
		if d.below(2) == 0 {
			w.slots[place{address, uint64(d.below(4))}] = oneOf[uint64](d, 1, 255, 256, most)
		}
	}
	for address := range uint64(3) {
		if d.below(3) == 0 {
			made := plainMade(address, w.accounts[address].nonce)
			w.accounts[made] = holding{uint64(d.below(2)), oneOf[uint64](d, 0, 3), oneOf(d, "", "\x00")}
		}
	}
	return w
}

// anyTx is a transaction that mostly is taken.
func anyTx(d *dice, w world) api.Tx {
	x := api.Tx{From: uint64(d.below(6)), Price: oneOf[uint64](d, 0, 1, 1, 2, 3, 50, most), Value: oneOf[uint64](d, 0, 0, 1, 5, 100, 1000, 20000, most-200)}
	x.Nonce = w.accounts[x.From].nonce + oneOf[uint64](d, 0, 0, 0, 0, 0, 0, 0, 0, 1, most)
	if d.below(4) == 0 {
		x.Make, x.Code = true, []byte(anyCode(d))
	} else {
		x.To = oneOf[uint64](d, 0, 1, 2, 3, 4, 5, 9, plainMade(1, 1), plainMade(2, 2), plainMade(3, 3), most)
		for range d.below(4) {
			x.Input = append(x.Input, anyBalance(d))
		}
	}
	if d.below(40) == 0 {
		x.Code, x.Input = append(x.Code, 1), append(x.Input, 1)
	}
	least := plainLeast(x)
	x.Gas = oneOf(d, least, least+1, least+uint64(d.below(100)), least+uint64(d.below(400)), least+uint64(d.below(2000)), 1000, 2000, api.MaxGas, api.MaxGas+1, least-1)
	return x
}

// Any transactions, one behind the other, with Commits between: over each kind of trie all is as the plain machine has it.
func TestP172AnyTransactions(t *testing.T) {
	events := map[string]int{}
	for seed := range uint64(400) {
		for kind, s := range overEach(anyWorld(&dice{seed})) {
			d := &dice{seed}
			w := anyWorld(d)
			b := both{t, s, newPlain(w), fmt.Sprintf("seed %d, over %s", seed, kind)}
			for range 12 {
				x := anyTx(d, b.p.now)
				if d.below(3) == 0 {
					b.check(x)
				}
				b.tx(x, oneOf[uint64](d, 0, 7, most), oneOf[uint64](d, x.From, x.To, 9, 1, 2, most, plainMade(x.From, x.Nonce)))
				if d.below(4) == 0 {
					b.commit()
				}
			}
			b.commit()
			for what, n := range b.p.events {
				events[what] += n
			}
		}
	}
	enough(t, events)
}

// enough asks that each end was met, of calls and of makings, and each refusal.
func enough(t *testing.T, events map[string]int) {
	t.Helper()
	var wanted []string
	for status := range api.Taken + 1 {
		if status != api.Taken {
			wanted = append(wanted, fmt.Sprint("ended ", status, " false"))
		}
		if slices.Contains([]int{api.Done, api.NoFunds, api.Taken}, status) {
			wanted = append(wanted, fmt.Sprint("ended ", status, " true"))
		}
	}
	for e := api.ErrTxForm; e <= api.ErrTxMost; e++ {
		wanted = append(wanted, fmt.Sprint("refused ", e))
	}
	for _, what := range append(wanted, "lost") {
		if events[what] < 40 {
			t.Errorf("P17.2: %q was met %d times", what, events[what])
		}
	}
}

// Any transactions, of which one thing or the other is refused.
func TestTheStateRefusesAnyTransaction(t *testing.T) {
	refused := 0
	for seed := range uint64(600) {
		d := &dice{seed + 5000}
		w := anyWorld(d)
		x := anyTx(d, w)
		o := ownOf(w)
		apply.Tx(state.New[*tree](o), x, 7, 9)
		asks := o.calls()
		if len(asks) == 0 {
			continue
		}
		ask := asks[d.below(len(asks))]
		e := oneOf(d, someErrors()[1:]...)
		o = ownOf(w)
		s, p := over[*tree](o), newPlain(w)
		o.refuse[ask], p.refuse[ask] = e, e
		r, got := s.tx(x, 7, 9)
		if want, wantE := p.tx(x, 7, 9); r != want || got != wantE {
			t.Fatalf("P17.2: seed %d, where %q is refused: %+v, %d, not %+v, %d", seed, ask, r, got, want, wantE)
		}
		if got == e {
			refused++
		}
		o.refuse, p.refuse = map[string]api.Errno{}, map[string]api.Errno{}
		b := both{t, s, p, fmt.Sprintf("seed %d, where %q was refused", seed, ask)}
		b.same()
		b.tx(x, 7, 9)
	}
	if refused < 300 {
		t.Errorf("only %d were refused", refused)
	}
}

// R1: numbers at each edge, and lists of all lengths: each call ends, and answers what the chapter says.
func TestR1AnyNumbers(t *testing.T) {
	edges := []uint64{0, 1, 99, 100, 255, 20000, 20001, 1 << 32, 1 << 63, most - 1, most}
	for seed := range uint64(3000) {
		d := &dice{seed + 77}
		edge := func() uint64 { return oneOf(d, edges...) }
		x := api.Tx{From: edge(), Nonce: edge(), Gas: edge(), Price: edge(), To: edge(), Value: edge(), Make: d.below(2) == 0}
		if d.below(2) == 0 {
			x.Input = wordsOf(d.below(12))
		}
		if d.below(2) == 0 {
			x.Code = bytesOfCode(d.below(300))
		}
		w := world{map[uint64]holding{}, map[place]uint64{}}
		for _, address := range []uint64{x.From, x.To, edge()} {
			w.accounts[address] = holding{oneOf(d, x.Nonce, x.Nonce, edge()), edge(), oneOf(d, "", "\x00", "\xff")}
		}
		b := both{t, over[*tree](ownOf(w)), newPlain(w), fmt.Sprint("seed ", seed)}
		b.check(x)
		b.tx(x, edge(), edge())
	}
}
