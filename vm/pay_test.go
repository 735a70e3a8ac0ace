package vm_test

import (
	"fmt"
	"slices"
	"testing"

	"pergola/api"
	"pergola/state"
	"pergola/vm"
)

// payWorld: 1 has 1000, a nonce and a code; 2 has nothing but a nonce; 3 lacks 10 to the greatest word; 4 has that; 5 is not there.
func payWorld() world {
	w := worldOf("push 1 return", "", "", "")
	return w.with(2, 0).with(3, most-10).with(4, most)
}

func TestP151Pay(t *testing.T) {
	for _, k := range []struct {
		from, to, value uint64
		paid            bool
		touched, mark   int
	}{
		{1, 2, 0, true, 0, 0}, {1, 1, 0, true, 0, 0}, {5, 4, 0, true, 0, 0}, {4, 4, 0, true, 0, 0},
		{1, 2, 1, true, 2, 2}, {1, 2, 999, true, 2, 2}, {1, 2, 1000, true, 2, 2}, {1, 2, 1001, false, 1, 0}, {1, 2, most, false, 1, 0},
		{1, 5, 1, true, 2, 2}, {5, 1, 1, false, 1, 0}, {2, 1, 1, false, 1, 0}, {5, 5, 1, false, 1, 0}, {5, 4, 1, false, 1, 0},
		{1, 1, 1, true, 1, 0}, {1, 1, 1000, true, 1, 0}, {1, 1, 1001, false, 1, 0}, {4, 4, most, true, 1, 0}, {3, 3, most, false, 1, 0},
		{1, 3, 9, true, 2, 2}, {1, 3, 10, true, 2, 2}, {1, 3, 11, false, 2, 0}, {1, 3, 1000, false, 2, 0},
		{1, 4, 1, false, 2, 0}, {4, 3, 10, true, 2, 2}, {4, 3, 11, false, 2, 0}, {3, 4, 1, false, 2, 0},
		{4, 2, most, true, 2, 2}, {4, 5, most, true, 2, 2}, {4, 1, most, false, 2, 0}, {4, 1, most - 1000, true, 2, 2}, {4, 1, most - 999, false, 2, 0},
		{most, 1, 1, false, 1, 0}, {1, most, 1000, true, 2, 2}, {1, 0, 5, true, 2, 2},
	} {
		for kind, s := range overEach(payWorld()) {
			b := both{t, s, newPlain(payWorld()), "over " + kind}
			what := fmt.Sprintf("P15.1: over %s: Pay(%d, %d, %d)", kind, k.from, k.to, k.value)
			if paid := b.pay(k.from, k.to, k.value); paid != k.paid {
				t.Errorf("%s = %v", what, paid)
			}
			if s.Touched() != k.touched || s.Mark() != k.mark {
				t.Errorf("%s: touched %d, %d changes, not %d, %d", what, s.Touched(), s.Mark(), k.touched, k.mark)
			}
		}
	}
}

func TestP151BalancesBehindPay(t *testing.T) {
	s := state.Open(fullOf(payWorld()))
	balance := func(address uint64) uint64 {
		a, _ := s.Get(address)
		return a.Balance
	}
	for _, k := range []struct{ from, to, value, has, gets uint64 }{
		{1, 2, 1, 999, 1}, {1, 2, 999, 0, 1000}, {2, 1, 400, 600, 400}, {4, 3, 10, most - 10, most}, {4, 5, most - 10, 0, most - 10}, {1, 1, 400, 400, 400},
	} {
		if paid, e := vm.Pay(s, k.from, k.to, k.value); !paid || e != api.OK || balance(k.from) != k.has || balance(k.to) != k.gets {
			t.Errorf("P15.1: Pay(%d, %d, %d) = %v, %d; then they have %d, %d, not %d, %d", k.from, k.to, k.value, paid, e, balance(k.from), balance(k.to), k.has, k.gets)
		}
	}
}

// The rest of the two accounts stays as it is.
func TestP151NoncesAndCodesStay(t *testing.T) {
	w := payWorld()
	w.slots[place{1, 7}] = 9
	for kind, s := range overEach(w) {
		before, _ := s.Get(1)
		other, _ := s.Get(2)
		if paid, e := s.pay(1, 2, 10); !paid || e != api.OK {
			t.Fatalf("P15.1: over %s: Pay = %v, %d", kind, paid, e)
		}
		before.Balance, other.Balance = 990, 10
		if a, _ := s.Get(1); a != before {
			t.Errorf("P15.1: over %s: who pays is %+v, not %+v", kind, a, before)
		}
		if a, _ := s.Get(2); a != other {
			t.Errorf("P15.1: over %s: who is paid is %+v, not %+v", kind, a, other)
		}
		if code, _ := s.Code(1); string(code) != coded("push 1 return") {
			t.Errorf("P15.1: over %s: the code became %x", kind, code)
		}
	}
}

// from is set first: to is taken back first.
func TestP151TheOrderOfTheTwo(t *testing.T) {
	for kind, s := range overEach(payWorld()) {
		s.Set(7, 1, 1)
		s.pay(1, 2, 10)
		if s.Mark() != 3 || !s.Back(2) {
			t.Fatalf("P15.1: over %s: %d changes stand", kind, s.Mark())
		}
		from, _ := s.Get(1)
		to, _ := s.Get(2)
		if from.Balance != 990 || to.Balance != 0 {
			t.Errorf("P15.1: over %s: behind the first of two changes they have %d and %d", kind, from.Balance, to.Balance)
		}
		s.Back(1)
		if from, _ = s.Get(1); from.Balance != 1000 {
			t.Errorf("P15.1: over %s: behind none of them: %d", kind, from.Balance)
		}
	}
}

// Who is asked for, in what order.
func TestP151WhoIsAskedFor(t *testing.T) {
	for _, k := range []struct {
		from, to, value uint64
		want            []string
	}{
		{1, 2, 0, nil}, {1, 2, 1, []string{"account 1", "account 2"}}, {2, 1, 1, []string{"account 2"}}, {1, 2, 1001, []string{"account 1"}},
		{1, 1, 1, []string{"account 1"}}, {1, 1, 1001, []string{"account 1"}}, {1, 4, 1, []string{"account 1", "account 4"}}, {5, 1, 1, []string{"account 5"}},
	} {
		o := ownOf(payWorld())
		s := state.New[*tree](o)
		o.calls()
		vm.Pay(s, k.from, k.to, k.value)
		if got := o.calls(); !slices.Equal(got, k.want) {
			t.Errorf("P15.1: Pay(%d, %d, %d) asks for %q, not %q", k.from, k.to, k.value, got, k.want)
		}
	}
}

// What the state answers is the call's answer; nobody is paid then, and who is not asked for refuses nothing.
func TestP151TheStateRefuses(t *testing.T) {
	for _, e := range someErrors() {
		for _, k := range []struct {
			from, to, value, refused uint64
			want                     api.Errno
			paid                     bool
		}{
			{1, 2, 0, 1, api.OK, true}, {1, 2, 0, 2, api.OK, true}, {1, 2, 1, 1, e, false}, {1, 2, 1, 2, e, false}, {1, 2, 1001, 2, api.OK, false}, {1, 1, 1001, 1, e, false},
			{2, 1, 1, 1, api.OK, false}, {1, 1, 5, 2, api.OK, true}, {1, 4, 1, 4, e, false}, {1, 2, 1, 3, api.OK, true},
		} {
			o := ownOf(payWorld())
			o.refuse[fmt.Sprintf("account %d", k.refused)] = e
			s := state.New[*tree](o)
			what := fmt.Sprintf("P15.1: Pay(%d, %d, %d), where %d is refused by %d", k.from, k.to, k.value, k.refused, e)
			if paid, got := vm.Pay(s, k.from, k.to, k.value); paid != k.paid || got != k.want {
				t.Errorf("%s = %v, %d, not %v, %d", what, paid, got, k.paid, k.want)
			}
			if k.want != api.OK && s.Mark() != 0 {
				t.Errorf("R2: %s: %d changes stand", what, s.Mark())
			}
			if k.want == api.OK || e == api.ErrWitness {
				continue
			}
			delete(o.refuse, fmt.Sprintf("account %d", k.refused))
			if a, _ := s.Get(k.from); a.Balance != payWorld().accounts[k.from].balance {
				t.Errorf("R2: %s: then it has %d", what, a.Balance)
			}
		}
	}
}

// someErrors are those that a trie, or a source, may answer.
func someErrors() []api.Errno {
	return []api.Errno{api.ErrWitness, api.ErrArg, api.ErrTrieKey, -1, 12345}
}

func TestP151PaysInARow(t *testing.T) {
	for seed := range uint64(20) {
		for kind, s := range overEach(payWorld()) {
			b := both{t, s, newPlain(payWorld()), "over " + kind}
			d := &dice{seed}
			for range 40 {
				value := oneOf(d, append(edges(), 9, 10, 11, 999, 1000, 1001)...)
				b.pay(uint64(d.below(7)), uint64(d.below(7)), value)
			}
		}
	}
}
