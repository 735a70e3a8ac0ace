package state_test

import (
	"math"
	"testing"

	"pergola/api"
	"pergola/state"
)

// someChanges are calls that change something, of one address and of several, some of them of what was there.
func someChanges() []func(b both) {
	var l []func(b both)
	for i, address := range []uint64{1, 0, m, 1, 2, 1} {
		n := uint64(i)
		l = append(l,
			func(b both) { b.set(address, n, m-n) },
			func(b both) { b.setSlot(address, n%2, n*3) },
			func(b both) { b.setCode(address, someCodes()[i]) },
			func(b both) { b.setSlot(address, 0, 0) },
			func(b both) { b.set(address, 0, 0) },
			func(b both) { b.setCode(address, someCodes()[(i+5)%7]) },
		)
	}
	return l
}

func TestP134MarkCountsChanges(t *testing.T) {
	overAll(t, func(t *testing.T, b both) {
		if b.s.Mark() != 0 {
			t.Error("P13.4: Mark behind New:", b.s.Mark())
		}
		for i, change := range someChanges() {
			change(b)
			b.get(1)
			b.slot(1, 1)
			b.code(1)
			if e := b.s.SetCode(1, make([]byte, api.MaxCode+1)); e != api.ErrArg || b.s.Mark() != i+1 {
				t.Fatal("P13.4: Mark:", b.s.Mark(), "not", i+1)
			}
		}
		b.commit()
		if b.s.Mark() != 0 {
			t.Error("P13.4: Mark behind a Commit:", b.s.Mark())
		}
	})
}

// P13.4: to each mark from each one, what was told then is told again.
func TestP134BackToEachMark(t *testing.T) {
	w := someWorlds()["many"]
	changes := someChanges()
	for to := range len(changes) + 1 {
		for kind, s := range overEach(w) {
			t.Run(kind, func(t *testing.T) {
				b := both{t, s, newPlain(w)}
				for _, change := range changes {
					change(b)
				}
				if to%2 == 0 {
					b.all(edges()[:3], edges()[:3])
				}
				b.back(to)
				b.same()
				b.all(edges(), edges()[:3])
				for _, change := range changes[to:] {
					change(b)
				}
				b.all(edges(), edges()[:3])
				b.back(to)
				b.commit()
				b.all(edges(), edges()[:3])
			})
		}
	}
}

// P13.4: one by one, all the way down.
func TestP134BackStepByStep(t *testing.T) {
	overAll(t, func(t *testing.T, b both) {
		for _, change := range someChanges() {
			change(b)
		}
		for i := range someChanges() {
			b.back(len(someChanges()) - 1 - i)
			b.all(edges()[:3], edges()[:2])
		}
		b.commit()
		b.all(edges(), edges()[:3])
	})
}

func TestP134NoSuchMark(t *testing.T) {
	overAll(t, func(t *testing.T, b both) {
		for n, change := range append([]func(b both){b.never}, someChanges()...) {
			change(b)
			for _, mark := range []int{-1, -2, math.MinInt, math.MinInt + 1, n + 1, n + 2, math.MaxInt, math.MaxInt - 1} {
				if b.s.Back(mark) {
					t.Fatalf("P13.4: Back(%d) behind %d changes", mark, n)
				}
			}
			b.same()
			if !b.s.Back(n) {
				t.Fatalf("P13.4: Back(%d) behind as many changes", n)
			}
			b.same()
		}
		b.all(edges(), edges()[:3])
	})
}

func (b both) never(both) {}

// P13.4: behind a Commit nothing can be taken back of what was ahead of it.
func TestP134BackBehindACommit(t *testing.T) {
	overAll(t, func(t *testing.T, b both) {
		for i, change := range someChanges() {
			change(b)
			if i%4 != 3 {
				continue
			}
			b.commit()
			for _, mark := range []int{1, 4, i, i + 1} {
				if b.s.Back(mark) {
					t.Fatalf("P13.4: Back(%d) behind a Commit", mark)
				}
			}
			if !b.s.Back(0) {
				t.Fatal("P13.4: Back(0) behind a Commit")
			}
			b.all(edges()[:3], edges()[:2])
			b.set(1, 9, 9)
			b.setSlot(1, 1, 9)
			b.setCode(1, "ab")
			b.back(0)
			b.all(edges()[:3], edges()[:2])
		}
	})
}

// P13.4: an account and a slot that are set to what they were count as any other.
func TestP134ChangesOfNothing(t *testing.T) {
	overAll(t, func(t *testing.T, b both) {
		for i, address := range edges() {
			a := b.p.now.account(address)
			b.set(address, a.Nonce, a.Balance)
			b.setSlot(address, 0, b.p.now.slots[place{address, 0}])
			if n := b.s.Mark(); n != 2*i+2 {
				t.Fatalf("P13.4: Mark = %d, not %d", n, 2*i+2)
			}
		}
		b.all(edges(), edges()[:2])
		b.commit()
		b.all(edges(), edges()[:2])
	})
}

// P13.5: each call touches what it asks for, once, also if it is taken back.
func TestP135Touched(t *testing.T) {
	calls := []struct {
		what string
		do   func(s machine, address, slot uint64)
		n    int // how many things it touches
	}{
		{"Get", func(s machine, address, slot uint64) { s.Get(address) }, 1},
		{"Set", func(s machine, address, slot uint64) { s.Set(address, 1, 1) }, 1},
		{"Slot", func(s machine, address, slot uint64) { s.Slot(address, slot) }, 2},
		{"SetSlot", func(s machine, address, slot uint64) { s.SetSlot(address, slot, 1) }, 2},
		{"Code", func(s machine, address, slot uint64) { s.Code(address) }, 1},
		{"SetCode", func(s machine, address, slot uint64) { s.SetCode(address, []byte("ab")) }, 1},
		{"a SetCode that is refused", func(s machine, address, slot uint64) { s.SetCode(address, make([]byte, 257)) }, 0},
	}
	for _, one := range calls {
		for _, two := range calls {
			for kind, s := range overEach(someWorlds()["storage alone"]) {
				asks := func(what string, want int) {
					t.Helper()
					if n := s.Touched(); n != want {
						t.Fatalf("P13.5: over %s: %s, %s: %s: Touched = %d, not %d", kind, one.what, two.what, what, n, want)
					}
				}
				asks("nothing", 0)
				one.do(s, 1, 7)
				asks("the first one", one.n)
				one.do(s, 1, 7)
				asks("again", one.n)
				s.Back(0)
				asks("taken back", one.n)
				two.do(s, 1, 7)
				asks("both", max(one.n, two.n))
				two.do(s, 7, 1)
				asks("another address", max(one.n, two.n)+two.n)
				s.Commit()
				asks("behind a Commit", max(one.n, two.n)+two.n)
				one.do(s, 1, 7)
				two.do(s, 7, 1)
				s.Back(0)
				s.Codes()
				asks("again, behind a Commit", max(one.n, two.n)+two.n)
			}
		}
	}
}

// P13.5: a slot is told apart by its address, and from an address.
func TestP135SlotsByTheirAddresses(t *testing.T) {
	s := state.Open(state.NewFull())
	n := 0
	for _, address := range edges() {
		n++
		for _, slot := range edges() {
			n++
			s.Slot(address, slot)
			s.SetSlot(address, slot, 1)
			if s.Touched() != n {
				t.Fatalf("P13.5: behind the slot %d of %d: Touched = %d, not %d", slot, address, s.Touched(), n)
			}
		}
		s.Back(0)
	}
}

// P13.10: what is told at a mark is told again behind a Back to it, whatever was done between, asked for or not.
func TestP1310BackToAMark(t *testing.T) {
	for seed := range uint32(12) {
		overAll(t, func(t *testing.T, b both) {
			d := &dice{seed*77 + 5}
			for range 10 {
				b.step(d, edges()[:4], edges()[:3])
			}
			mark := b.s.Mark()
			want := b.p.now.clone()
			for range 15 {
				// No Commit, and no Back below the mark.
				address, slot := d.word(edges()[:4]), d.word(edges()[:3])
				b.set(address, d.word(edges()), 0)
				b.setSlot(address, slot, d.word(edges()))
				b.setCode(address, someCodes()[d.below(7)])
				b.back(mark + d.below(b.s.Mark()-mark+1))
			}
			b.back(mark)
			b.p.now = want
			b.all(edges()[:5], edges()[:4])
			b.commit()
			b.all(edges()[:5], edges()[:4])
		})
	}
}
