package vm_test

import (
	"maps"
	"slices"
	"testing"

	"pergola/api"
)

// both is a state and a plain machine, which are given the same calls.
type both struct {
	t    *testing.T
	s    machine
	p    *plain
	what string
}

func (b both) run(f api.Frame) api.Outcome {
	b.t.Helper()
	input := slices.Clone(f.Input)
	o, e := b.s.run(f)
	want, wantE := b.p.run(f)
	if o != want || e != wantE {
		b.t.Fatalf("P15.2: %s: Run = %+v, %d, not %+v, %d", b.what, o, e, want, wantE)
	}
	if o.Gas > f.Gas {
		b.t.Fatalf("P15.4: %s: of %d gas %d is left", b.what, f.Gas, o.Gas)
	}
	if !slices.Equal(f.Input, input) {
		b.t.Fatalf("R5: %s: the input became %v", b.what, f.Input)
	}
	b.same()
	return o
}

func (b both) pay(from, to, value uint64) bool {
	b.t.Helper()
	ok, e := b.s.pay(from, to, value)
	want, wantE := b.p.pay(from, to, value)
	if ok != want || e != wantE {
		b.t.Fatalf("P15.1: %s: Pay(%d, %d, %d) = %v, %d, not %v, %d", b.what, from, to, value, ok, e, want, wantE)
	}
	b.same()
	return ok
}

// same asks for what was touched and changed, which touches nothing; and then for all that was.
func (b both) same() {
	b.t.Helper()
	if n := b.s.Touched(); n != b.p.touched() {
		b.t.Fatalf("%s: touched %d, not %d: %v, %v", b.what, n, b.p.touched(), b.p.asked, b.p.looked)
	}
	if n := b.s.Mark(); n != b.p.changes {
		b.t.Fatalf("%s: %d changes stand, not %d", b.what, n, b.p.changes)
	}
	for _, address := range slices.Sorted(maps.Keys(b.p.asked)) {
		want := b.p.now.accounts[address]
		if a, e := b.s.Get(address); a.Nonce != want.nonce || a.Balance != want.balance || e != api.OK {
			b.t.Fatalf("%s: the account %d is %+v, %d, not %+v", b.what, address, a, e, want)
		}
	}
	for at := range b.p.looked {
		want := b.p.now.slots[at]
		if n, e := b.s.Slot(at.address, at.slot); n != want || e != api.OK {
			b.t.Fatalf("%s: the slot %v is %d, %d, not %d", b.what, at, n, e, want)
		}
	}
	if n := b.s.Touched(); n != b.p.touched() {
		b.t.Fatalf("%s: what was touched was not what the plain machine says: %v, %v", b.what, b.p.asked, b.p.looked)
	}
}
