package state_test

import (
	"slices"
	"testing"

	"pergola/api"
)

// both is a state and a plain one, which are given the same calls.
type both struct {
	t *testing.T
	s machine
	p *plain
}

func (b both) get(address uint64) {
	b.t.Helper()
	if a, e := b.s.Get(address); a != b.p.get(address) || e != api.OK {
		b.t.Fatalf("P13.1: Get(%d) = %+v, %d, not %+v", address, a, e, b.p.get(address))
	}
}

func (b both) set(address, nonce, balance uint64) {
	b.t.Helper()
	if e := b.s.Set(address, nonce, balance); e != api.OK {
		b.t.Fatalf("P13.1: Set(%d, %d, %d) = %d", address, nonce, balance, e)
	}
	b.p.put(address, nonce, balance)
}

func (b both) slot(address, slot uint64) {
	b.t.Helper()
	if n, e := b.s.Slot(address, slot); n != b.p.slot(address, slot) || e != api.OK {
		b.t.Fatalf("P13.2: Slot(%d, %d) = %d, %d, not %d", address, slot, n, e, b.p.slot(address, slot))
	}
}

func (b both) setSlot(address, slot, value uint64) {
	b.t.Helper()
	if e := b.s.SetSlot(address, slot, value); e != api.OK {
		b.t.Fatalf("P13.2: SetSlot(%d, %d, %d) = %d", address, slot, value, e)
	}
	b.p.setSlot(address, slot, value)
}

// code asks for a code, if anybody has it: behind an ErrWitness a state is of no use any more.
func (b both) code(address uint64) {
	b.t.Helper()
	want, known := b.p.code(address)
	if known != api.OK {
		b.get(address)
		return
	}
	if code, e := b.s.Code(address); string(code) != want || e != api.OK {
		b.t.Fatalf("P13.3: Code(%d) = %q, %d, not %q", address, code, e, want)
	}
}

func (b both) setCode(address uint64, code string) {
	b.t.Helper()
	if e, want := b.s.SetCode(address, []byte(code)), b.p.setCode(address, code); e != want {
		b.t.Fatalf("P13.3: SetCode(%d, %s) = %d, not %d", address, short(code), e, want)
	}
}

func (b both) back(mark int) {
	b.t.Helper()
	if ok, want := b.s.Back(mark), b.p.back(mark); ok != want {
		b.t.Fatalf("P13.4: Back(%d) = %v, not %v", mark, ok, want)
	}
}

func (b both) commit() {
	b.t.Helper()
	if root, e := b.s.Commit(); root != b.p.commit() || e != api.OK {
		b.t.Fatalf("P13.6: Commit = %x, %d, not %x", root, e, b.p.commit())
	}
}

// same asks what touches nothing.
func (b both) same() {
	b.t.Helper()
	if n := b.s.Mark(); n != len(b.p.were) {
		b.t.Fatalf("P13.4: Mark = %d, not %d", n, len(b.p.were))
	}
	if n := b.s.Touched(); n != b.p.touched() {
		b.t.Fatalf("P13.5: Touched = %d, not %d", n, b.p.touched())
	}
	if l := texts(b.s.Codes()); !slices.Equal(l, b.p.codes()) {
		b.t.Fatalf("P13.7: Codes = %q, not %q", l, b.p.codes())
	}
}

// all asks for all that there may be.
func (b both) all(addresses, slots []uint64) {
	b.t.Helper()
	for _, address := range addresses {
		b.get(address)
		for _, slot := range slots {
			b.slot(address, slot)
		}
		b.code(address)
	}
	b.same()
}

// step does one call or the other.
func (b both) step(d *dice, addresses, slots []uint64) {
	b.t.Helper()
	address, slot, value := d.word(addresses), d.word(slots), d.word(edges())
	switch d.below(16) {
	case 0, 1:
		b.get(address)
	case 2, 3, 4:
		b.set(address, value*uint64(d.below(2)), d.word(edges())*uint64(d.below(2)))
	case 5, 6:
		b.slot(address, slot)
	case 7, 8, 9:
		b.setSlot(address, slot, value*uint64(d.below(2)))
	case 10:
		b.code(address)
	case 11, 12:
		l := append(someCodes(), longCodes()...)
		b.setCode(address, l[d.below(len(l))])
	case 13, 14:
		b.back(d.below(len(b.p.were)+3) - 1)
	case 15:
		b.commit()
	}
	b.same()
}
