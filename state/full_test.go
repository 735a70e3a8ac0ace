package state_test

import (
	"bytes"
	"maps"
	"slices"
	"testing"

	"pergola/accounts"
	"pergola/api"
	"pergola/digest"
	"pergola/node"
	"pergola/state"
	"pergola/words"
)

func TestP138NewFull(t *testing.T) {
	f := state.NewFull()
	if f.Accounts().Len() != 0 || f.Accounts().Root() != node.EmptyRoot() {
		t.Error("P13.8: accounts of a new one:", f.Accounts().Len())
	}
	for _, address := range edges() {
		x, e := f.Storage(address, api.Digest{1})
		if e != api.OK || x.Len() != 0 || x.Root() != node.EmptyRoot() {
			t.Error("P13.8: a storage of a new one:", e, x.Len())
		}
	}
	for _, d := range []api.Digest{{}, name("a"), {31: 1}, node.EmptyRoot()} {
		if code, e := f.Code(d); len(code) != 0 || e != api.ErrWitness {
			t.Errorf("P13.8: Code(%x) of a new one = %q, %d", d, code, e)
		}
	}
	if l := texts(f.Texts()); !slices.Equal(l, []string{"", "\x80"}) {
		t.Errorf("P13.8: Texts of a new one = %q", l)
	}
}

// The tries themselves are told, whoever asks, and whatever root is named.
func TestP138TheTriesThemselves(t *testing.T) {
	f := state.NewFull()
	if f.Accounts() != f.Accounts() {
		t.Error("P13.8: Accounts tells a copy")
	}
	f.Accounts().Put(words.Key(1), accounts.Encode(api.Account{Nonce: 4, Code: node.EmptyCode(), Storage: node.EmptyRoot()}))
	for _, address := range edges() {
		x, _ := f.Storage(address, api.Digest{})
		for _, root := range []api.Digest{{}, {9}, node.EmptyRoot(), x.Root()} {
			y, e := f.Storage(address, root)
			if y != x || e != api.OK {
				t.Error("P13.8: Storage tells a copy, or asks for the root:", e)
			}
		}
		x.Put(words.Key(address), []byte{5})
		if y, _ := f.Storage(address, api.Digest{}); y.Len() != 1 {
			t.Error("P13.8: what was laid into a storage:", y.Len())
		}
		if n, e := state.Open(f).Slot(address, address); n != 5 || e != api.OK {
			t.Errorf("P13.8: Slot of what was laid into a storage = %d, %d", n, e)
		}
		if n, e := state.Open(f).Slot(address, address+1); n != 0 || e != api.OK {
			t.Errorf("P13.8: Slot of what was not = %d, %d", n, e)
		}
	}
	if a, e := state.Open(f).Get(1); a.Nonce != 4 || e != api.OK {
		t.Errorf("P13.8: Get of what was laid into the trie of accounts = %+v, %d", a, e)
	}
}

// Two states of one source stand on the same tries: what one commits is told by another that looks behind it.
func TestP138OpenIsNewOfF(t *testing.T) {
	f := state.NewFull()
	one, two := state.Open(f), state.Open(f)
	one.Set(1, 1, 1)
	one.SetSlot(1, 7, 9)
	if f.Accounts().Len() != 0 {
		t.Error("P13.6: a change is laid ahead of a Commit")
	}
	one.Commit()
	if f.Accounts().Len() != 1 {
		t.Error("P13.8: what Commit does is not done to f")
	}
	if a, _ := two.Get(1); a.Nonce != 1 {
		t.Error("P13.8: Get:", a)
	}
	if n, _ := two.Slot(1, 7); n != 9 {
		t.Error("P13.8: Slot:", n)
	}
}

func TestP138Learn(t *testing.T) {
	codes := append(append(someCodes(), longCodes()...), "\xc0", string(make([]byte, 5000)))
	f := state.NewFull()
	for i, code := range codes {
		if _, e := f.Code(name(code)); (e == api.OK) != (code == "") {
			t.Errorf("P13.8: Code(%s) ahead of Learn: %d", short(code), e)
		}
		for range 2 {
			if d := f.Learn([]byte(code)); d != digest.Of([]byte(code)) {
				t.Errorf("P13.8: Learn(%s) = %x", short(code), d)
			}
		}
		for k, other := range codes {
			got, e := f.Code(name(other))
			if known := k <= i || other == ""; (e == api.OK) != known || known && string(got) != other || !known && (e != api.ErrWitness || len(got) != 0) {
				t.Errorf("P13.8: Code(%s) = %q, %d", short(other), got, e)
			}
		}
	}
	for _, d := range []api.Digest{{}, {1}, name("other")} {
		if code, e := f.Code(d); len(code) != 0 || e != api.ErrWitness {
			t.Errorf("P13.8: Code of what was never learned = %q, %d", code, e)
		}
	}
}

// textsOf works Texts out of what a full source was given.
func textsOf(w world, codes []string) []string {
	l := map[string]int{"": 1, "\x80": 1}
	for _, code := range codes {
		l[code]++
	}
	for address := range w.accounts {
		x, _ := fullOf(w).Storage(address, api.Digest{})
		for _, b := range x.Nodes() {
			l[string(b)]++
		}
	}
	for _, b := range fullOf(w).Accounts().Nodes() {
		l[string(b)]++
	}
	return slices.Sorted(maps.Keys(l))
}

func TestP138Texts(t *testing.T) {
	for what, w := range someWorlds() {
		f := fullOf(w)
		codes := someCodes()[:6]
		for _, code := range []string{"", "\x80", "zz", "zz", string(make([]byte, 1000))} {
			if l, want := texts(f.Texts()), textsOf(w, codes); !slices.Equal(l, want) || !rises(l) {
				t.Fatalf("P13.8: %s: Texts = %x, not %x", what, l, want)
			}
			codes = append(codes, code)
			f.Learn([]byte(code))
		}
		// To ask for storages and codes that there are not adds nothing.
		before := texts(f.Texts())
		for _, address := range []uint64{77, 78, m - 5} {
			f.Storage(address, api.Digest{})
			state.Open(f).Slot(address, 7)
		}
		f.Code(name("never"))
		if l := texts(f.Texts()); !slices.Equal(l, before) {
			t.Fatalf("P13.8: %s: Texts = %x, not %x", what, l, before)
		}
	}
}

// Each once: two storages of the same nodes, a code that is a node's encoding, codes of which one is the beginning of the other.
func TestP138TextsAreToldOnce(t *testing.T) {
	f := state.NewFull()
	s := state.Open(f)
	for _, address := range []uint64{1, 2, m} {
		for slot := range uint64(40) {
			s.SetSlot(address, slot*slot, m-slot)
		}
	}
	s.Commit()
	x, _ := f.Storage(1, api.Digest{})
	want := map[string]int{"": 1, "\x80": 1, "a": 1, "ab": 1, "b": 1}
	for _, b := range slices.Concat(x.Nodes(), f.Accounts().Nodes()) {
		want[string(b)]++
		f.Learn(b)
	}
	for _, code := range []string{"b", "ab", "a", "a"} {
		f.Learn([]byte(code))
	}
	if l := texts(f.Texts()); !slices.Equal(l, slices.Sorted(maps.Keys(want))) {
		t.Errorf("P13.8: Texts = %x", l)
	}
	if len(x.Nodes()) < 5 {
		t.Error("the storages are too small:", len(x.Nodes()))
	}
}

// Texts behind Commits: what went is not told any more, what came is; the codes of a state are not learned by that.
func TestP138TextsBehindACommit(t *testing.T) {
	for what, w := range someWorlds() {
		f := fullOf(w)
		b := both{t, state.Open(f), newPlain(w)}
		for i, change := range someChanges() {
			change(b)
			if i%5 == 0 {
				b.commit()
			}
		}
		b.commit()
		if l, want := texts(f.Texts()), textsOf(b.p.now, someCodes()[:6]); !slices.Equal(l, want) {
			t.Fatalf("P13.8: %s: Texts = %x, not %x", what, l, want)
		}
	}
}

// R7: each of a full source, its clone and the clone's clone goes its own way.
func TestR7Clones(t *testing.T) {
	for what, w := range someWorlds() {
		for seed := range uint32(6) {
			f := fullOf(w)
			all := []both{{t, state.Open(f), newPlain(w)}}
			fulls := []*state.Full{f}
			learned := [][]string{someCodes()[:6]}
			d := &dice{seed}
			for i := range 60 {
				k := d.below(len(all))
				if i%12 == 5 {
					// Of one that has changes which are not committed; a state of the clone knows nothing of them.
					fulls = append(fulls, fulls[k].Clone())
					p := newPlain(committed(all[k].p))
					p.source = maps.Clone(all[k].p.source)
					all = append(all, both{t, state.Open(fulls[len(fulls)-1]), p})
					learned = append(learned, slices.Clone(learned[k]))
				}
				all[k].step(d, edges()[:4], edges()[:4])
				code := string([]byte{byte(i), byte(k)})
				learned[k] = append(learned[k], code)
				all[k].p.source[fulls[k].Learn([]byte(code))] = code
				for n, f := range fulls {
					for _, code := range learned[k] {
						_, e := f.Code(name(code))
						if is := slices.Contains(learned[n], code) || code == ""; is != (e == api.OK) {
							t.Fatalf("R7: %s: Code of %q, at %d: %d", what, code, n, e)
						}
					}
				}
			}
			for n, b := range all {
				b.back(0)
				b.all(edges(), edges())
				asTold(t, fulls[n], b.p.now)
				b.commit()
				if l, want := texts(fulls[n].Texts()), textsOf(b.p.now, learned[n]); !slices.Equal(l, want) {
					t.Fatalf("R7: %s: Texts = %x, not %x", what, l, want)
				}
			}
		}
	}
}

// committed is what a plain one has at its last Commit.
func committed(p *plain) world {
	w := p.now
	if len(p.were) > 0 {
		w = p.were[0]
	}
	w = w.clone()
	w.set = nil
	return w
}

// R7: a storage that there was not, and one that there was, laid into at one of the two.
func TestR7StoragesOfClones(t *testing.T) {
	for _, early := range []bool{false, true} {
		f := state.NewFull()
		if early {
			f.Storage(1, api.Digest{})
		}
		g := f.Clone()
		h := g.Clone()
		for i, x := range []*state.Full{f, g} {
			y, _ := x.Storage(1, api.Digest{})
			y.Put(words.Key(uint64(i)), []byte{1})
			x.Accounts().Put(words.Key(uint64(i)), accounts.Encode(accounts.Empty()))
		}
		for i, x := range []*state.Full{f, g, h} {
			y, _ := x.Storage(1, api.Digest{})
			_, zero, _ := y.Get(words.Key(0))
			_, one, _ := y.Get(words.Key(1))
			if zero != (i == 0) || one != (i == 1) {
				t.Errorf("R7: the storage of number %d has %v, %v", i, zero, one)
			}
			if n := x.Accounts().Len(); n != 1-i/2 {
				t.Errorf("R7: number %d has %d accounts", i, n)
			}
		}
	}
}

// R7: a state goes on over the one that it was opened on, not over a clone.
func TestR7AStateAndAClone(t *testing.T) {
	f := fullOf(someWorlds()["many"])
	s := state.Open(f)
	s.Set(1, 11, 11)
	s.Slot(1, 0)
	g := f.Clone()
	before := texts(g.Texts())
	s.SetSlot(1, 0, 12)
	s.SetSlot(77, 0, 12)
	s.Commit()
	if l := texts(g.Texts()); !slices.Equal(l, before) {
		t.Error("R7: a Commit is seen at a clone")
	}
	u := state.Open(g)
	u.SetSlot(1, 0, 13)
	u.Commit()
	if n, _ := s.Slot(1, 0); n != 12 {
		t.Error("R7: a Commit on top of a clone is seen:", n)
	}
	if bytes.Equal(bytes.Join(f.Texts(), nil), bytes.Join(g.Texts(), nil)) {
		t.Error("R7: the two tell the same")
	}
}
