package vm_test

import (
	"testing"

	"pergola/api"
)

// loops are codes that would run for ever, if nothing cost gas.
func loops() []string {
	return []string{
		"mark push 0 jump",
		"mark push 1 push 0 jumpif",
		"push 0 mark push 1 add push 2 jump",
		"mark push 7 dup 0 load push 1 add store push 0 jump",
		"mark push 1 push 0 push 0 gas call pop push 0 jump",
		"mark " + calling(1, 0, 0, 50) + "pop push 0 jump",
		"mark " + calling(2, 1, 0, 10) + "pop push 0 jump",
		"mark " + calling(2, 5000, 0, 10) + "pop push 0 jump",
		"mark " + calling(3, 0, 0, 0) + "pop push 0 jump",
		calling(1, 0, 0, 20000),
		"push 1 push 0 push 0 gas call push 1 push 0 push 0 gas call",
	}
}

// No code runs for ever, however deep it is let begin.
func TestP154NoCodeRunsForEver(t *testing.T) {
	for _, text := range loops() {
		for _, depth := range []int{1, 4, 0, -3, -1000, -1 << 63} {
			f := api.Frame{Self: 1, Gas: api.MaxGas, Depth: depth}
			w := worldOf(text, "", "push 1 revert")
			for kind, s := range overEach(w) {
				o, e := s.run(f)
				if e != api.OK || o.Status == api.Done || o.Gas != 0 || s.Mark() != 0 {
					t.Errorf("P15.4: %s, at the depth %d, over %s: %+v, %d", text, depth, kind, o, e)
				}
			}
		}
	}
}

// Gas is never made: of calls and what comes back from them there is never more.
func TestP154GasIsNeverMade(t *testing.T) {
	for _, w := range []world{
		worldOf(calling(2, 1, 0, most)+calling(2, 1, 0, most)+"stop", "stop"),
		worldOf(calling(2, 5000, 0, most)+calling(2, 5000, 0, 1)+"stop", "stop"),
		worldOf(calling(2, 1, 0, most)+calling(2, 1, 0, 10)+"stop", "push 1 revert"),
		worldOf(calling(1, 1, 0, 50)+"stop", "stop"),
	} {
		for gas := range uint64(300) {
			f := first(gas)
			o, _ := newPlain(w).run(f)
			runs(t, "gas", w, f, o)
			if o.Gas > gas {
				t.Fatalf("P15.4: of %d gas %d is left", gas, o.Gas)
			}
		}
	}
}

// Gas that is left is told in full: what each code uses is the same, however much there is.
func TestP155MoreGasChangesNothing(t *testing.T) {
	texts := []string{"", "stop", "push 9 return", "push 9 revert", "push 7 push 8 store push 7 load return", "push 2 balance push 3 balance add return",
		"push 0 mark push 1 add dup 0 push 9 less push 2 jumpif return", "push 7 push 8 store push 5 revert", "mark push 0 jump"}
	for _, text := range faults() {
		texts = append(texts, text, "push 7 value store "+text)
	}
	told := 0
	for _, text := range texts {
		for kind, s := range overEach(worldOf(text, "", "")) {
			for _, gas := range []uint64{0, 1, 20, 23, 24, 50, 99, 100, 1000, api.MaxGas - 1} {
				mark := s.Mark()
				less, _ := s.run(first(gas))
				s.Back(mark)
				for _, more := range []uint64{1, 2, 50, 1000, api.MaxGas - gas} {
					if gas+more > api.MaxGas || less.Status == api.NoGas {
						continue
					}
					want := less
					if less.Status == api.Done || less.Status == api.Reverted {
						want.Gas += more
					}
					if o, e := s.run(first(gas + more)); o != want || e != api.OK {
						t.Errorf("P15.5: %s, over %s: gas %d: %+v; %d more: %+v, %d", text, kind, gas, less, more, o, e)
					}
					s.Back(mark)
					told++
				}
			}
		}
	}
	if told == 0 {
		t.Error("P15.5: no code has ended but by NoGas")
	}
}

// The same of many codes, none of which asks for gas.
func TestP155MoreGasChangesNothingOfAnyCode(t *testing.T) {
	d := &dice{155}
	told := map[int]int{}
	for range 3000 {
		code := anyCode(d, "gas", "call")
		w := worldOf("", "")
		w.accounts[1] = holding{1, 1000, code}
		gas := uint64(d.below(60))
		s := overEach(w)["a trie"]
		less, _ := s.run(first(gas))
		s.Back(0)
		if less.Status == api.NoGas {
			continue
		}
		told[less.Status]++
		more := uint64(oneOf(d, 1, 2, 100, 10000))
		want := less
		if less.Status == api.Done || less.Status == api.Reverted {
			want.Gas += more
		}
		if o, e := s.run(first(gas + more)); o != want || e != api.OK {
			t.Fatalf("P15.5: %x: gas %d: %+v; %d more: %+v, %d", code, gas, less, more, o, e)
		}
	}
	for _, status := range []int{api.Done, api.Reverted, api.Underflow, api.BadOp, api.BadJump} {
		if told[status] < 5 {
			t.Errorf("P15.5: only %d codes have ended with the status %d", told[status], status)
		}
	}
}
