package state_test

import (
	"testing"

	"pergola/accounts"
	"pergola/api"
	"pergola/node"
	"pergola/partial"
	"pergola/recorder"
	"pergola/state"
)

func TestExamples(t *testing.T) {
	f := state.NewFull()
	s := state.Open(f)
	if a, e := s.Get(1); !accounts.Is(a) || e != api.OK || s.Touched() != 1 {
		t.Error("P13.1: Get of nothing:", a, e, s.Touched())
	}
	if s.Set(1, 0, 5) != api.OK || s.SetSlot(1, 7, 9) != api.OK {
		t.Error("Set and SetSlot")
	}
	seven, _ := s.Slot(1, 7)
	eight, _ := s.Slot(1, 8)
	if seven != 9 || eight != 0 || s.Mark() != 2 || s.Touched() != 3 {
		t.Error("P13.2, P13.4, P13.5:", seven, eight, s.Mark(), s.Touched())
	}
	first := s.Back(1)
	seven, _ = s.Slot(1, 7)
	if second := s.Back(2); !first || seven != 0 || second || s.Mark() != 1 {
		t.Error("P13.4: Back:", first, seven, second, s.Mark())
	}
	root, e := s.Commit()
	want := rootOf(map[uint64][]byte{1: accounts.Encode(api.Account{Balance: 5, Code: node.EmptyCode(), Storage: node.EmptyRoot()})})
	if root != want || e != api.OK {
		t.Errorf("P13.6: Commit = %x, %d, not %x", root, e, want)
	}
	if a, e := s.Get(1); a.Balance != 5 || a.Storage != node.EmptyRoot() || e != api.OK {
		t.Error("P13.6: Get behind a Commit:", a, e)
	}
	s.Set(1, 0, 0)
	if root, e := s.Commit(); root != node.EmptyRoot() || e != api.OK {
		t.Errorf("P13.6: Commit = %x, %d", root, e)
	}
}

// overAll does the same with a state over each kind of trie, on top of each world.
func overAll(t *testing.T, do func(t *testing.T, b both)) {
	for what, w := range someWorlds() {
		for kind, s := range overEach(w) {
			t.Run(what+" over "+kind, func(t *testing.T) { do(t, both{t, s, newPlain(w)}) })
		}
	}
}

// P13.1 to P13.3: what there is at the beginning.
func TestP131WhatTheTriesHave(t *testing.T) {
	overAll(t, func(t *testing.T, b both) {
		b.same()
		b.all(edges(), edges())
		b.all(edges(), edges())
	})
}

// P13.1: each edge as an address, a nonce and a balance.
func TestP131Set(t *testing.T) {
	overAll(t, func(t *testing.T, b both) {
		for i, address := range edges() {
			for k, n := range edges() {
				b.set(address, n, edges()[(i+k)%10])
				b.get(address)
				b.get(edges()[k])
			}
			b.same()
		}
		b.all(edges(), edges()[:3])
	})
}

// P13.1: a Set of the nonce leaves the balance as it is told, and code and storage as they are.
func TestP131SetLeavesTheRest(t *testing.T) {
	w := someWorlds()["many"]
	for kind, s := range overEach(w) {
		for address, was := range w.accounts {
			s.Set(address, 77, 78)
			want := api.Account{Nonce: 77, Balance: 78, Code: was.Code, Storage: was.Storage}
			if a, e := s.Get(address); a != want || e != api.OK {
				t.Errorf("P13.1: %s: Get(%d) = %+v, %d, not %+v", kind, address, a, e, want)
			}
		}
	}
}

// P13.1: Storage is the root as it was at the last Commit, whatever was set since.
func TestP131StorageIsTheLastCommits(t *testing.T) {
	overAll(t, func(t *testing.T, b both) {
		for i, address := range edges() {
			b.setSlot(address, edges()[9-i], 5)
			b.get(address)
			b.set(address, 1, 1)
			b.setCode(address, "ab")
			b.setSlot(address, edges()[i], 0)
			b.get(address)
		}
		b.commit()
		for i, address := range edges() {
			b.get(address)
			b.setSlot(address, edges()[9-i], 0)
			b.get(address)
		}
		b.commit()
		b.all(edges(), edges())
	})
}

// P13.2: each edge as an address, a slot and a value.
func TestP132SetSlot(t *testing.T) {
	overAll(t, func(t *testing.T, b both) {
		for i, address := range edges() {
			for k, slot := range edges() {
				b.setSlot(address, slot, edges()[(i+k)%10])
				b.slot(address, slot)
				b.slot(address, edges()[(k+1)%10])
				b.slot(edges()[(i+1)%10], slot)
			}
		}
		b.all(edges(), edges())
		b.commit()
		b.all(edges(), edges())
	})
}

// P13.2: a slot that is set to 0, to what it was, set and set again.
func TestP132SetAgain(t *testing.T) {
	overAll(t, func(t *testing.T, b both) {
		for _, address := range []uint64{0, 1, m} {
			for _, slot := range []uint64{0, 1, 7, m} {
				was := b.p.now.slots[place{address, slot}]
				for _, value := range []uint64{was, 0, 1, m, 0, was, 0} {
					b.setSlot(address, slot, value)
					b.slot(address, slot)
				}
				b.same()
			}
		}
		b.commit()
		b.all(edges(), edges())
	})
}

// P13.3: each code at each address.
func TestP133SetCode(t *testing.T) {
	overAll(t, func(t *testing.T, b both) {
		for i, address := range edges() {
			for _, code := range someCodes() {
				b.setCode(address, code)
				b.code(address)
				b.get(address)
			}
			b.setCode(address, someCodes()[i%7])
			b.code(address)
			b.same()
		}
		b.all(edges(), edges()[:2])
		b.commit()
		b.all(edges(), edges()[:2])
	})
}

// P13.3: MaxCode bytes are taken, one more is not, and changes nothing.
func TestP133LongCodes(t *testing.T) {
	overAll(t, func(t *testing.T, b both) {
		for _, address := range edges() {
			for _, code := range longCodes() {
				b.setCode(address, code)
				b.same()
			}
		}
		b.setCode(3, someCodes()[6])
		for _, code := range longCodes() {
			if e := b.s.SetCode(3, []byte(code)); e != 1 {
				t.Errorf("P13.3: SetCode(3, %s) = %d, not ErrArg", short(code), e)
			}
			b.code(3)
			b.same()
		}
		b.commit()
		b.code(3)
	})
}

// P13.3: a code of no bytes is none's, as if it had never been set; Codes tells it.
func TestP133NoCode(t *testing.T) {
	for _, none := range [][]byte{nil, {}} {
		s := state.Open(state.NewFull())
		if e := s.SetCode(1, none); e != api.OK || s.Mark() != 1 {
			t.Error("P13.3: SetCode of no bytes:", e, s.Mark())
		}
		if a, _ := s.Get(1); !accounts.Is(a) {
			t.Error("P13.3: an account with a code of no bytes:", a)
		}
		if code, e := s.Code(1); len(code) != 0 || e != api.OK {
			t.Error("P13.3: Code:", code, e)
		}
		if l := s.Codes(); len(l) != 1 || len(l[0]) != 0 {
			t.Error("P13.7: Codes:", l)
		}
		if root, e := s.Commit(); root != node.EmptyRoot() || e != api.OK {
			t.Errorf("P13.6: Commit = %x, %d", root, e)
		}
	}
}

// P13.3: two addresses of one code, of which the first, or the second, is taken back or changed.
func TestP133OneCodeTwice(t *testing.T) {
	f := state.NewFull()
	s := state.Open(f)
	tells := func(address uint64, want string) {
		t.Helper()
		if code, e := s.Code(address); string(code) != want || e != api.OK {
			t.Errorf("P13.3: Code(%d) = %q, %d, not %q", address, code, e, want)
		}
	}
	s.SetCode(1, []byte("c"))
	s.SetCode(2, []byte("c"))
	s.Back(1)
	tells(1, "c")
	tells(2, "")
	s.SetCode(2, []byte("c"))
	s.SetCode(1, []byte("d"))
	tells(2, "c")
	tells(1, "d")
	if l := texts(s.Codes()); len(l) != 2 || l[0] != "c" || l[1] != "d" {
		t.Error("P13.7: Codes:", l)
	}
	s.Back(2)
	tells(1, "c")
	if l := texts(s.Codes()); len(l) != 1 || l[0] != "c" {
		t.Error("P13.7: Codes:", l)
	}
	s.Commit()
	s.SetCode(1, nil)
	s.SetCode(2, nil)
	s.Commit()
	// Nobody has that code any more; who is given it again is told it.
	s.SetCode(3, []byte("c"))
	s.Back(0)
	if l := texts(s.Codes()); len(l) != 2 || l[0] != "" || l[1] != "c" {
		t.Error("P13.7: Codes:", l)
	}
}

// P13.3: behind a Commit a code that was set is known to the state, though the source has not learned it; to another state it is not.
func TestP133CodesBehindACommit(t *testing.T) {
	for what, w := range someWorlds() {
		for kind, s := range overEach(w) {
			last := someCodes()[6]
			s.SetCode(5, []byte(last))
			for range 3 {
				s.Commit()
				if code, e := s.Code(5); string(code) != last || e != api.OK {
					t.Errorf("P13.3: %s over %s: Code = %q, %d", what, kind, code, e)
				}
			}
		}
		f := fullOf(w)
		s := state.Open(f)
		s.SetCode(5, []byte("new"))
		s.Commit()
		if code, e := state.Open(f).Code(5); len(code) != 0 || e != api.ErrWitness {
			t.Errorf("P13.3: %s: a code that the source has not: %q, %d", what, code, e)
		}
		if e := api.ErrWitness; e != 2 {
			t.Error("ErrWitness:", e)
		}
	}
}

// P13.3: a code that an account of the trie names, and that the source has.
func TestP133CodeOfTheSource(t *testing.T) {
	w := someWorlds()["many"]
	for kind, s := range overEach(w) {
		for address, a := range w.accounts {
			code, e := s.Code(address)
			if name(string(code)) != a.Code || e != api.OK {
				if a.Code == name(someCodes()[6]) && len(code) == 0 && e == api.ErrWitness {
					// That one the source has not.
					continue
				}
				t.Errorf("P13.3: %s: Code(%d) = %q, %d", kind, address, code, e)
			}
		}
	}
}

// P13.7: each once, rising, ahead of a Commit and behind it.
func TestP137Codes(t *testing.T) {
	overAll(t, func(t *testing.T, b both) {
		for i := range 21 {
			b.setCode(edges()[i%3], someCodes()[i*3%7])
			if i%5 == 4 {
				b.commit()
			}
			if l := texts(b.s.Codes()); !rises(l) {
				t.Fatalf("P13.7: Codes = %q", l)
			}
			b.same()
		}
		if n := len(b.s.Codes()); n != 7 {
			t.Errorf("P13.7: %d Codes", n)
		}
		b.back(0)
		b.same()
	})
}

// Long rows of calls, in an order that is no simple one, of a few addresses and slots, and of many.
func TestRowsOfCalls(t *testing.T) {
	for seed := range uint32(8) {
		addresses, slots := edges(), edges()
		if seed%2 == 0 {
			addresses, slots = addresses[:3], slots[:3]
		}
		overAll(t, func(t *testing.T, b both) {
			d := &dice{seed * 2654435761}
			for range 300 {
				b.step(d, addresses, slots)
			}
			b.all(addresses, slots)
			b.commit()
			b.all(addresses, slots)
		})
	}
}

// A state is the same program over each trie: the nodes that it has come by over recorders are enough for the same calls over tries of which nothing else is known.
func TestNotesAreEnough(t *testing.T) {
	for _, w := range someWorlds() {
		for seed := range uint32(10) {
			row := func(s machine) {
				b, d := both{t, s, newPlain(w)}, &dice{seed * 31}
				for range 6 + int(seed)*5 {
					b.step(d, edges(), edges())
				}
				b.commit()
			}
			f := fullOf(w)
			r := &recording{f: f}
			row(state.New[*recorder.Recorder](r))
			var notes [][]byte
			for _, x := range r.all {
				notes = append(notes, x.Notes()...)
			}
			row(state.New[*partial.Partial](told{f.Accounts().Root(), notes, f}))
		}
	}
}

// A partial trie of which a node is not known answers ErrWitness, and so does the state.
func TestNodesThatAreNotKnown(t *testing.T) {
	f := fullOf(someWorlds()["many"])
	open := func(nodes [][]byte) machine {
		return state.New[*partial.Partial](told{f.Accounts().Root(), nodes, f})
	}
	for what, do := range six() {
		if e, zero := do(open(nil), 1); e != api.ErrWitness || !zero {
			t.Errorf("%s without a node = %d; all else zero: %v", what, e, zero)
		}
	}
	s := open(f.Accounts().Nodes())
	if n, e := s.Slot(256, 0); n != 0 || e != api.ErrWitness {
		t.Errorf("P13.2: Slot without a node = %d, %d", n, e)
	}
	s = open(f.Accounts().Nodes())
	if e := s.SetSlot(256, 0, 1); e != api.OK {
		t.Errorf("P13.2: SetSlot without a node = %d", e)
	}
	if root, e := s.Commit(); root != (api.Digest{}) || e != api.ErrWitness {
		t.Errorf("P13.6: Commit without a node = %x, %d", root, e)
	}
}
