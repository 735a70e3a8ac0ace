package vm_test

import (
	"fmt"
	"testing"

	"pergola/api"
)

// byStatus are codes that end so, if they have a gas of 1000, also behind up to nine other bytes.
func byStatus() map[int][]string {
	all := map[int][]string{
		api.Done:     {"", "stop", "push 9", "push 9 return", "push 0 return", "push 18446744073709551615 return"},
		api.Reverted: {"push 9 revert", "push 0 revert", "push 18446744073709551615 revert"},
		api.TooDeep:  {"push 1 push 0 push 0 push 20000 call push 9 return"},
	}
	for status, text := range faults() {
		all[status] = append(all[status], text)
	}
	return all
}

// Each status, also behind changes: what is not Done leaves the state as it was.
func TestP153TheOutcomeOfEachStatus(t *testing.T) {
	for _, ahead := range []string{"", "push 7 value store ", "push 7 push 0 store "} {
		for status, texts := range byStatus() {
			for _, text := range texts {
				w := worldOf(ahead+text, "push 5 return")
				w.slots[place{1, 7}] = 70
				what := fmt.Sprintf("%q, status %d", ahead+text, status)
				o, _ := newPlain(w).run(first(1000))
				if o.Status != status {
					t.Fatalf("the plain machine has %+v of %s", o, what)
				}
				if status != api.Done && status != api.Reverted && (o.Gas != 0 || o.Result != 0) {
					t.Fatalf("P15.3: %s: %+v", what, o)
				}
				p := runs(t, what, w, first(1000), o)
				if status != api.Done && (p.changes != 0 || p.now.slots[place{1, 7}] != 70) {
					t.Errorf("P15.3: %s: %d changes stand: %v", what, p.changes, p.now.slots)
				}
				if status == api.Done && ahead != "" && (p.changes != 1 || p.now.slots[place{1, 7}] == 70) {
					t.Errorf("P15.3: %s: %d changes stand: %v", what, p.changes, p.now.slots)
				}
			}
		}
	}
}

// Back to the Mark at the beginning, and no further: what stood ahead of Run still stands, and can be taken back.
func TestP153WhatStoodAheadStaysSo(t *testing.T) {
	for status, texts := range byStatus() {
		for kind, s := range overEach(worldOf("push 7 value store push 8 caller store "+texts[len(texts)-1], "push 5 return")) {
			what := fmt.Sprintf("P15.3: status %d, over %s", status, kind)
			s.SetSlot(1, 7, 700)
			s.Set(2, 20, 2000)
			s.SetSlot(1, 9, 900)
			o, e := s.run(first(1000))
			if o.Status != status || e != api.OK {
				t.Errorf("%s: %+v, %d", what, o, e)
			}
			mark, seven := 3, uint64(700)
			if status == api.Done {
				mark, seven = 5, 8
			}
			n, _ := s.Slot(1, 7)
			nine, _ := s.Slot(1, 9)
			a, _ := s.Get(2)
			if s.Mark() != mark || n != seven || nine != 900 || a.Balance != 2000 || a.Nonce != 20 {
				t.Errorf("%s: %d changes stand, slots %d, %d, %+v", what, s.Mark(), n, nine, a)
			}
			if !s.Back(1) {
				t.Fatalf("%s: nothing can be taken back", what)
			}
			n, _ = s.Slot(1, 7)
			a, _ = s.Get(2)
			if n != 700 || a.Balance != 1000 || a.Nonce != 1 {
				t.Errorf("%s: behind Back(1): slot %d, %+v", what, n, a)
			}
		}
	}
}

// A state behind Run is what another one is told, once it is committed: one root, whatever it stands on.
func TestP153TheRootBehindRun(t *testing.T) {
	for status, texts := range byStatus() {
		w := worldOf("push 7 value store "+texts[len(texts)-1], calling(3, 100, 5, 200)+"push 1 push 2 store", "push 9 caller store")
		p := newPlain(w)
		for i := range 3 {
			f := first(1000)
			f.Self = uint64(i + 1)
			p.run(f)
		}
		want := fullOf(tidy(p.now)).Accounts().Root()
		for kind, s := range overEach(w) {
			for i := range 3 {
				f := first(1000)
				f.Self = uint64(i + 1)
				s.run(f)
			}
			root, e := s.Commit()
			if kind != "an own tree" && (root != want || e != api.OK) {
				t.Errorf("P15.3: status %d, over %s: the root is %x, %d, not %x", status, kind, root, e, want)
			}
		}
	}
}

// tidy is a world without slots that are 0.
func tidy(w world) world {
	w = w.clone()
	for at, value := range w.slots {
		if value == 0 {
			delete(w.slots, at)
		}
	}
	return w
}
