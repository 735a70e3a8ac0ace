package state_test

import (
	"slices"
	"testing"

	"pergola/accounts"
	"pergola/api"
	"pergola/node"
	"pergola/state"
	"pergola/words"
)

// lays asks that a Commit gives the tries just these calls, in their order, and tells the root.
func lays(t *testing.T, o *own, s machine, want ...string) {
	t.Helper()
	o.calls()
	root, e := s.Commit()
	// What a trie is asked for, ahead of being changed, is not promised.
	got := slices.DeleteFunc(o.calls(), func(call string) bool {
		return slices.Contains([]string{"1 get", "2 get", "3 get"}, call[:min(5, len(call))])
	})
	if !slices.Equal(got, want) {
		t.Fatalf("P13.6: Commit has asked for %q, not %q", got, want)
	}
	if root != o.accounts.Root() || e != api.OK {
		t.Fatalf("P13.6: Commit = %x, %d", root, e)
	}
	if s.Mark() != 0 {
		t.Fatal("P13.6: Mark behind a Commit:", s.Mark())
	}
}

func TestP136WhatIsLaid(t *testing.T) {
	o := newOwn()
	s := state.New[*tree](o)
	lays(t, o, s)
	s.Get(1)
	s.Slot(1, 1)
	s.Code(1)
	lays(t, o, s)
	// By rising addresses and slots, each of which is laid once.
	s.SetSlot(3, m, 9)
	s.SetSlot(1, 256, 1)
	s.Set(2, 1, 1)
	s.SetSlot(1, 2, 5)
	s.SetSlot(3, 0, 0)
	s.SetSlot(1, 255, 0)
	s.SetSlot(1, 2, 6)
	s.Set(1, 7, 7)
	s.Set(m, 0, 0)
	s.Set(0, 0, 0)
	s.SetCode(1<<63, []byte("c"))
	s.SetSlot(1, m, 1)
	lays(t, o, s,
		"accounts delete 0",
		"1 put 2", "1 delete 255", "1 put 256", "1 put 18446744073709551615", "accounts put 1",
		"accounts put 2",
		"Storage 3", "3 delete 0", "3 put 18446744073709551615", "accounts put 3",
		"accounts put 9223372036854775808",
		"accounts delete 18446744073709551615")
	lays(t, o, s)
	// What was taken back is not laid; what was set to what it was is.
	s.Set(1, 7, 7)
	s.SetSlot(2, 5, 0)
	s.SetSlot(3, 1, 1)
	s.Set(0, 1, 1)
	s.Back(2)
	lays(t, o, s, "accounts put 1", "Storage 2", "2 delete 5", "accounts put 2")
	s.SetSlot(3, 1, 1)
	s.SetCode(2, nil)
	s.Back(0)
	lays(t, o, s)
	s.SetSlot(1, 2, 6)
	s.SetSlot(1, 3, 6)
	s.Back(1)
	s.Slot(1, 3)
	lays(t, o, s, "1 put 2", "accounts put 1")
	s.Set(2, 0, 0)
	s.SetCode(2, nil)
	lays(t, o, s, "accounts delete 2")
}

// P13.6: an account is asked whether it is empty with its new root.
func TestP136EmptyWithItsStorage(t *testing.T) {
	for kind, s := range overEach(newWorld()) {
		root := func(want map[uint64]api.Account) {
			t.Helper()
			values := map[uint64][]byte{}
			for address, a := range want {
				values[address] = accounts.Encode(a)
			}
			if got, e := s.Commit(); got != rootOf(values) || e != api.OK {
				t.Errorf("P13.6: over %s: Commit = %x, %d", kind, got, e)
			}
		}
		a := accounts.Empty()
		a.Storage = rootOf(map[uint64][]byte{7: {9}})
		s.SetSlot(1, 7, 9)
		root(map[uint64]api.Account{1: a})
		if got, _ := s.Get(1); got != a {
			t.Errorf("P13.6: over %s: Get = %+v", kind, got)
		}
		s.SetSlot(1, 7, 0)
		root(nil)
		if got, _ := s.Get(1); got != accounts.Empty() {
			t.Errorf("P13.6: over %s: Get = %+v", kind, got)
		}
		a = accounts.Empty()
		a.Code = name("ab")
		s.SetCode(1, []byte("ab"))
		root(map[uint64]api.Account{1: a})
		s.SetCode(1, nil)
		root(nil)
		a = accounts.Empty()
		a.Nonce = 1
		s.Set(1, 1, 0)
		root(map[uint64]api.Account{1: a})
		a.Nonce, a.Balance = 0, 1
		s.Set(1, 0, 1)
		root(map[uint64]api.Account{1: a})
		// An account that is set to Empty is told as it is, and goes with the next Commit alone.
		s.Set(1, 0, 0)
		if got, e := s.Get(1); got != accounts.Empty() || e != api.OK {
			t.Errorf("P13.6: over %s: Get = %+v", kind, got)
		}
		s.Back(0)
		root(map[uint64]api.Account{1: a})
		s.Set(1, 0, 0)
		root(nil)
	}
}

// P13.6: of each world each account is set to Empty; those with a storage stay.
func TestP136AllGo(t *testing.T) {
	overAll(t, func(t *testing.T, b both) {
		for _, address := range edges() {
			b.set(address, 0, 0)
			b.setCode(address, "")
		}
		b.commit()
		b.all(edges(), edges())
		for _, address := range edges() {
			for _, slot := range edges() {
				b.setSlot(address, slot, 0)
			}
			b.setSlot(address, 7, 0)
		}
		if root, e := b.s.Commit(); root != node.EmptyRoot() || e != api.OK {
			t.Errorf("P13.6: Commit = %x, %d, not EmptyRoot", root, e)
		}
		b.p.commit()
		b.all(edges(), edges())
	})
}

// P13.6: a Commit of nothing, and of changes that were all taken back, leaves the root; so does one behind another.
func TestP136CommitOfNothing(t *testing.T) {
	overAll(t, func(t *testing.T, b both) {
		b.commit()
		b.all(edges()[:3], edges()[:3])
		b.commit()
		b.commit()
		for _, change := range someChanges() {
			change(b)
		}
		b.back(0)
		b.commit()
		b.all(edges(), edges()[:3])
		for _, change := range someChanges() {
			change(b)
		}
		b.commit()
		b.commit()
		b.same()
		b.all(edges(), edges()[:3])
	})
}

// P13.6: what Commit does is done to the source's tries, and to nothing else.
func TestP136TheTriesOfTheSource(t *testing.T) {
	for what, w := range someWorlds() {
		f := fullOf(w)
		b := both{t, state.Open(f), newPlain(w)}
		before := f.Accounts().Root()
		for _, change := range someChanges() {
			change(b)
		}
		b.all(edges(), edges())
		if f.Accounts().Root() != before {
			t.Fatalf("P13.6: %s: the trie has changed ahead of a Commit", what)
		}
		b.commit()
		asTold(t, f, b.p.now)
	}
}

// asTold asks that a full source has just the accounts and the slots of a world.
func asTold(t *testing.T, f *state.Full, w world) {
	t.Helper()
	n, slots := 0, map[uint64]int{}
	for p, value := range w.slots {
		x, _ := f.Storage(p.address, api.Digest{})
		if got, is, _ := x.Get(words.Key(p.slot)); is != (value != 0) || is && string(got) != string(words.Bytes(value)) {
			t.Fatalf("P13.6: the slot %d of %d has %x, not %d", p.slot, p.address, got, value)
		}
		if value != 0 {
			slots[p.address]++
		}
	}
	for address, a := range w.accounts {
		got, is, _ := f.Accounts().Get(words.Key(address))
		if is != !accounts.Is(a) || is && string(got) != string(accounts.Encode(a)) {
			t.Fatalf("P13.6: the account of %d is %x, not %+v", address, got, a)
		}
		if is {
			n++
		}
		x, _ := f.Storage(address, api.Digest{})
		if x.Root() != a.Storage || x.Len() != slots[address] {
			t.Fatalf("P13.6: the storage of %d has the root %x and %d slots", address, x.Root(), x.Len())
		}
	}
	if f.Accounts().Len() != n {
		t.Fatalf("P13.6: there are %d accounts, not %d", f.Accounts().Len(), n)
	}
}

// P13.9: in whatever order changes of unlike accounts and slots are done, and with asking between or not.
func TestP139Orders(t *testing.T) {
	changes := []func(b both){
		func(b both) { b.set(1, 5, 6) },
		func(b both) { b.setSlot(1, 1, 256) },
		func(b both) { b.setSlot(1, 0, 7) },
		func(b both) { b.set(256, 0, 0) },
		func(b both) { b.setSlot(m, 1, 0) },
	}
	for what, w := range map[string]world{"nothing": newWorld(), "many": someWorlds()["many"]} {
		var want api.Digest
		for i, order := range ordersOf(changes) {
			b := both{t, state.Open(fullOf(w)), newPlain(w)}
			for _, change := range order {
				change(b)
				if i%3 == 0 {
					b.get(1)
					b.slot(m, 1)
				}
			}
			b.all(edges(), edges()[:3])
			root, e := b.s.Commit()
			if want == (api.Digest{}) {
				want = root
			}
			if root != want || e != api.OK {
				t.Fatalf("P13.9: %s: in another order the root is %x, not %x", what, root, want)
			}
			b.p.commit()
			b.all(edges(), edges()[:3])
		}
	}
}

// P13.9: in one Commit or in several.
func TestP139Commits(t *testing.T) {
	w := someWorlds()["many"]
	for n := range uint32(40) {
		var roots []api.Digest
		for _, often := range []int{1, 3, 1000} {
			s, d := state.Open(fullOf(w)), &dice{n}
			for i := range 40 {
				s.SetSlot(d.word(edges()), d.word(edges()), d.word(edges()))
				s.Set(d.word(edges()), d.word(edges()), uint64(d.below(2)))
				s.SetCode(d.word(edges()), []byte(someCodes()[d.below(7)]))
				if i%often == 0 {
					s.Commit()
				}
			}
			root, _ := s.Commit()
			roots = append(roots, root)
		}
		if roots[0] != roots[1] || roots[1] != roots[2] {
			t.Fatalf("P13.9: the roots are %x", roots)
		}
	}
}

// P13.10: a state that is opened behind a Commit tells what the first one told, and goes on as it does.
func TestP1310OpenedBehindACommit(t *testing.T) {
	for what, w := range someWorlds() {
		for seed := range uint32(6) {
			f := fullOf(w)
			b := both{t, state.Open(f), newPlain(w)}
			d := &dice{seed + 40}
			for range 5 {
				for range 30 {
					b.step(d, edges(), edges())
				}
				b.commit()
				b.all(edges(), edges())
				for _, code := range b.s.Codes() {
					b.p.source[f.Learn(code)] = string(code)
				}
				then := both{t, state.Open(f), newPlain(b.p.now)}
				then.p.now.set = nil
				then.p.source = b.p.source
				if then.s.Mark() != 0 || then.s.Touched() != 0 || len(then.s.Codes()) != 0 {
					t.Fatalf("P13.10: %s: a state without calls", what)
				}
				then.all(edges(), edges())
				if root, e := then.s.Commit(); root != f.Accounts().Root() || e != api.OK {
					t.Fatalf("P13.10: %s: Commit = %x, %d", what, root, e)
				}
				b = then
			}
		}
	}
}
