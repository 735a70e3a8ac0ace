package state_test

import (
	"bytes"
	"fmt"
	"maps"
	"slices"
	"testing"

	"pergola/accounts"
	"pergola/api"
	"pergola/node"
	"pergola/state"
	"pergola/words"
)

// six are the calls that look at an account; each tells its error, and whether all else is zero.
func six() map[string]func(s machine, address uint64) (api.Errno, bool) {
	return map[string]func(s machine, address uint64) (api.Errno, bool){
		"Get": func(s machine, address uint64) (api.Errno, bool) {
			a, e := s.Get(address)
			return e, a == api.Account{}
		},
		"Set": func(s machine, address uint64) (api.Errno, bool) { return s.Set(address, 1, 1), true },
		"Slot": func(s machine, address uint64) (api.Errno, bool) {
			n, e := s.Slot(address, 7)
			return e, n == 0
		},
		"SetSlot": func(s machine, address uint64) (api.Errno, bool) { return s.SetSlot(address, 7, 1), true },
		"Code": func(s machine, address uint64) (api.Errno, bool) {
			code, e := s.Code(address)
			return e, len(code) == 0
		},
		"SetCode": func(s machine, address uint64) (api.Errno, bool) { return s.SetCode(address, []byte("c")), true },
	}
}

// someErrors are those that a trie, or a source, may answer.
func someErrors() []api.Errno {
	return []api.Errno{api.ErrWitness, api.ErrArg, api.ErrTrieKey, api.ErrTrieValue, -1, 12345}
}

// asked asks that a source, and its tries, were asked for just this since the last time.
func asked(t *testing.T, o *own, what string, want ...string) {
	t.Helper()
	if got := o.calls(); !slices.Equal(got, want) {
		t.Fatalf("%s has asked for %q, not %q", what, got, want)
	}
}

// The trie of accounts is asked for once, by New; the account when it is first asked for.
func TestTheAccountIsLookedAtOnce(t *testing.T) {
	for one, do := range six() {
		for two, again := range six() {
			o := newOwn()
			s := state.New[*tree](o)
			asked(t, o, "New", "Accounts")
			do(s, 5)
			first := o.calls()
			if len(first) == 0 || first[0] != "accounts get 5" {
				t.Fatalf("%s has not looked at the account: %q", one, first)
			}
			again(s, 5)
			s.Get(5)
			s.Commit()
			again(s, 5)
			s.Commit()
			s.Get(5)
			if later := o.calls(); slices.Contains(later, "accounts get 5") || slices.Contains(later, "Accounts") {
				t.Fatalf("%s, then %s: the account was looked at again: %q", one, two, later)
			}
			again(s, 6)
			if later := o.calls(); !slices.Contains(later, "accounts get 6") || slices.Contains(later, "Accounts") {
				t.Fatalf("%s, then %s of another one: %q", one, two, later)
			}
		}
	}
}

// A storage is asked for once: by Slot, or by a Commit that changes it; the root is the account's.
func TestTheStorageIsAskedForOnce(t *testing.T) {
	a := api.Account{Nonce: 1, Code: node.EmptyCode(), Storage: rootOf(map[uint64][]byte{7: {9}})}
	o := newOwn()
	o.account(1, a)
	o.slot(1, 7, 9)
	o.account(2, a)
	o.slot(2, 7, 9)
	s := state.New[*tree](o)
	s.Get(1)
	s.Set(1, 5, 5)
	s.SetCode(1, []byte("c"))
	s.SetSlot(1, 7, 0)
	s.SetSlot(1, 8, 1)
	s.Code(1)
	s.Back(2)
	s.Mark()
	s.Touched()
	s.Codes()
	asked(t, o, "what is no Slot", "Accounts", "accounts get 1")
	s.Commit()
	if l := o.calls(); slices.Contains(l, "Storage 1") {
		t.Fatal("a Commit that sets no slot has asked for the storage:", l)
	}
	s.SetSlot(1, 8, 1)
	s.Slot(1, 8)
	asked(t, o, "the first Slot, of a slot that is set", "Storage 1")
	if o.roots[1] != a.Storage {
		t.Errorf("the storage was asked for with %x", o.roots[1])
	}
	s.Slot(1, 7)
	asked(t, o, "another Slot", "1 get 7")
	s.Commit()
	s.Slot(1, 8)
	s.SetSlot(1, 9, 9)
	s.Commit()
	if l := o.calls(); slices.Contains(l, "Storage 1") {
		t.Fatal("the storage was asked for again:", l)
	}
	s.SetSlot(2, 9, 9)
	s.Back(0)
	s.Commit()
	asked(t, o, "a SetSlot that was taken back", "accounts get 2")
	s.SetSlot(2, 9, 9)
	s.Commit()
	s.Slot(2, 9)
	s.Slot(2, 7)
	s.SetSlot(2, 9, 8)
	s.Commit()
	n := 0
	for _, call := range o.calls() {
		if call == "Storage 2" {
			n++
		}
	}
	if n != 1 || o.roots[2] != a.Storage {
		t.Errorf("the storage was asked for %d times, with %x", n, o.roots[2])
	}
}

// The source is asked for a code where neither EmptyCode nor a code that was set has that digest.
func TestTheSourceIsAskedForCodes(t *testing.T) {
	o := newOwn()
	d := name("c")
	asks := fmt.Sprintf("Code %x", d[:4])
	o.account(1, api.Account{Code: d, Storage: node.EmptyRoot()})
	o.codes[d] = []byte("what the source says")
	s := state.New[*tree](o)
	tells := func(address uint64, want string, calls ...string) {
		t.Helper()
		o.calls()
		if code, e := s.Code(address); string(code) != want || e != api.OK {
			t.Fatalf("P13.3: Code(%d) = %q, %d, not %q", address, code, e, want)
		}
		asked(t, o, "Code", calls...)
	}
	tells(1, "what the source says", "accounts get 1", asks)
	tells(1, "what the source says", asks)
	tells(2, "", "accounts get 2")
	s.SetCode(2, []byte("c"))
	tells(2, "c")
	tells(1, "c")
	s.Back(0)
	tells(2, "")
	tells(1, "what the source says", asks)
	s.SetCode(2, []byte("c"))
	s.SetCode(1, nil)
	tells(1, "")
	s.SetCode(1, []byte("d"))
	tells(1, "d")
	s.Back(1)
	tells(1, "c")
	s.Commit()
	s.SetCode(2, nil)
	s.Commit()
	tells(1, "c")
	tells(2, "")
}

// An error that the trie of accounts answers is the call's own; the account and the slot are touched all the same, and nothing else has changed.
func TestTheTrieOfAccountsRefuses(t *testing.T) {
	for what, do := range six() {
		for _, e := range someErrors() {
			o := newOwn()
			o.account(5, api.Account{Nonce: 3, Code: node.EmptyCode(), Storage: node.EmptyRoot()})
			s := state.New[*tree](o)
			s.Set(1, 1, 1)
			o.accounts.refuse["get 5"] = e
			if got, zero := do(s, 5); got != e || !zero {
				t.Fatalf("%s = %d, not %d; all else zero: %v", what, got, e, zero)
			}
			want := 2
			if what == "Slot" || what == "SetSlot" {
				want = 3
			}
			if n := s.Touched(); n != want {
				t.Fatalf("P13.5: %s was refused: Touched = %d, not %d", what, n, want)
			}
			if s.Mark() != 1 || len(s.Codes()) != 0 {
				t.Fatalf("R2: %s was refused: Mark = %d, Codes = %q", what, s.Mark(), s.Codes())
			}
			if e == api.ErrWitness {
				continue
			}
			if got, _ := do(s, 5); got != e {
				t.Fatalf("%s again = %d, not %d", what, got, e)
			}
			delete(o.accounts.refuse, "get 5")
			if got, _ := do(s, 5); got != api.OK || s.Touched() != want {
				t.Fatalf("R2: %s, where it is not refused any more = %d", what, got)
			}
			s.Back(1)
			if a, e := s.Get(5); a.Nonce != 3 || e != api.OK {
				t.Fatalf("R2: Get = %+v, %d", a, e)
			}
		}
	}
}

// ErrArg is told ahead of what the trie says.
func TestP133ALongCodeIsRefusedFirst(t *testing.T) {
	o := newOwn()
	o.accounts.refuse["get"] = api.ErrWitness
	s := state.New[*tree](o)
	o.calls()
	for _, code := range longCodes() {
		if e := s.SetCode(1, []byte(code)); e != api.ErrArg {
			t.Errorf("P13.3: SetCode = %d, not ErrArg", e)
		}
	}
	asked(t, o, "a SetCode that is refused")
	if s.Touched() != 0 || s.Mark() != 0 || len(s.Codes()) != 0 {
		t.Error("P13.5: Touched:", s.Touched())
	}
}

// A value that is no account's is ErrWitness, whatever it is asked for.
func TestWhatIsNoAccount(t *testing.T) {
	right := accounts.Encode(api.Account{Nonce: 1, Code: node.EmptyCode(), Storage: node.EmptyRoot()})
	zero := slices.Clone(right)
	zero[2] = 0
	for _, value := range [][]byte{{}, {0x80}, {0xc0}, {1}, right[1:], right[:len(right)-1], append(slices.Clone(right), 0), zero, bytes.Repeat([]byte{0xff}, 256)} {
		for what, do := range six() {
			o := newOwn()
			o.accounts.values[string(words.Key(5))] = string(value)
			if e, nothing := do(state.New[*tree](o), 5); e != api.ErrWitness || !nothing {
				t.Errorf("%s of an account of the value %x = %d; all else zero: %v", what, value, e, nothing)
			}
			if len(value) == 0 {
				continue
			}
			f := state.NewFull()
			f.Accounts().Put(words.Key(5), value)
			if e, nothing := do(state.Open(f), 5); e != api.ErrWitness || !nothing {
				t.Errorf("%s of an account of the value %x = %d; all else zero: %v", what, value, e, nothing)
			}
			s := state.Open(f)
			if e, _ := do(s, 6); e != api.OK {
				t.Errorf("%s of another account = %d", what, e)
			}
			s.Commit()
		}
	}
}

// A value that is no slot's is ErrWitness where it is asked for, and may be written over.
func TestWhatIsNoSlot(t *testing.T) {
	for _, value := range [][]byte{{0}, {0, 1}, {0, 0, 0, 0, 0, 0, 0, 1}, bytes.Repeat([]byte{1}, 9), make([]byte, 256)} {
		f := state.NewFull()
		x, _ := f.Storage(5, api.Digest{})
		x.Put(words.Key(7), value)
		x.Put(words.Key(8), []byte{8})
		s := state.Open(f)
		if n, e := s.Slot(5, 8); n != 8 || e != api.OK {
			t.Errorf("P13.2: Slot beside what is no slot's = %d, %d", n, e)
		}
		if n, e := s.Slot(5, 7); n != 0 || e != api.ErrWitness || s.Touched() != 3 {
			t.Errorf("P13.2: Slot of the value %x = %d, %d", value, n, e)
		}
		s = state.Open(f)
		if e := s.SetSlot(5, 7, 3); e != api.OK {
			t.Errorf("P13.2: SetSlot over the value %x = %d", value, e)
		}
		if n, e := s.Slot(5, 7); n != 3 || e != api.OK {
			t.Errorf("P13.2: Slot = %d, %d", n, e)
		}
		if _, e := s.Commit(); e != api.OK || x.Root() != rootOf(map[uint64][]byte{7: {3}, 8: {8}}) {
			t.Errorf("P13.6: Commit over the value %x = %d", value, e)
		}
	}
	// Of no bytes is the word 0.
	o := newOwn()
	o.storage(5).values[string(words.Key(7))] = ""
	if n, e := state.New[*tree](o).Slot(5, 7); n != 0 || e != api.OK {
		t.Errorf("P13.2: Slot of the value of no bytes = %d, %d", n, e)
	}
}

// An error that the source answers of a storage is that of a Slot, or of a Commit; not of a SetSlot.
func TestTheSourceRefusesAStorage(t *testing.T) {
	for _, e := range someErrors() {
		o := newOwn()
		o.slot(5, 7, 9)
		o.refuse["Storage 5"] = e
		s := state.New[*tree](o)
		if n, got := s.Slot(5, 7); n != 0 || got != e || s.Touched() != 2 {
			t.Errorf("Slot = %d, %d, not %d; Touched = %d", n, got, e, s.Touched())
		}
		s = state.New[*tree](o)
		s.Set(1, 1, 1)
		if got := s.SetSlot(5, 7, 8); got != api.OK {
			t.Errorf("SetSlot = %d", got)
		}
		before := o.kept()
		if root, got := s.Commit(); root != (api.Digest{}) || got != e {
			t.Errorf("Commit = %x, %d, not %d", root, got, e)
		}
		if e == api.ErrWitness {
			continue
		}
		if s.Mark() != 2 || !same(o.kept(), before) {
			t.Errorf("R2: a Commit that was refused has changed something: %d, %v", s.Mark(), o.kept())
		}
		delete(o.refuse, "Storage 5")
		if n, got := s.Slot(5, 7); n != 8 || got != api.OK {
			t.Errorf("R2: Slot, where it is not refused any more = %d, %d", n, got)
		}
		s.Back(1)
		if n, got := s.Slot(5, 7); n != 9 || got != api.OK {
			t.Errorf("R2: Slot, where it is not refused any more = %d, %d", n, got)
		}
	}
}

func same(a, b map[string]map[string]string) bool {
	return maps.EqualFunc(a, b, func(x, y map[string]string) bool { return maps.Equal(x, y) })
}

// An error that the trie of a storage answers to a Get.
func TestAStorageRefuses(t *testing.T) {
	for _, e := range someErrors() {
		o := newOwn()
		o.slot(5, 7, 9)
		o.storage(5).refuse["get 7"] = e
		s := state.New[*tree](o)
		if n, got := s.Slot(5, 8); n != 0 || got != api.OK {
			t.Errorf("Slot of another one = %d, %d", n, got)
		}
		if n, got := s.Slot(5, 7); n != 0 || got != e || s.Touched() != 3 {
			t.Errorf("Slot = %d, %d, not %d; Touched = %d", n, got, e, s.Touched())
		}
		if e != api.ErrWitness {
			delete(o.storage(5).refuse, "get 7")
			if n, got := s.Slot(5, 7); n != 9 || got != api.OK {
				t.Errorf("R2: Slot, where it is not refused any more = %d, %d", n, got)
			}
			o.storage(5).refuse["get 7"] = e
		}
		// What is set is told, and laid, without that.
		s = state.New[*tree](o)
		s.SetSlot(5, 7, 3)
		if n, got := s.Slot(5, 7); n != 3 || got != api.OK {
			t.Errorf("Slot of what was set = %d, %d", n, got)
		}
		if _, got := s.Commit(); got != api.OK || o.storage(5).values[string(words.Key(7))] != "\x03" {
			t.Errorf("Commit = %d", got)
		}
	}
}

// An error that the source answers of a code.
func TestTheSourceRefusesACode(t *testing.T) {
	d := name("c")
	for _, e := range someErrors() {
		o := newOwn()
		o.account(5, api.Account{Nonce: 1, Code: d, Storage: node.EmptyRoot()})
		o.codes[d] = []byte("c")
		o.refuse[fmt.Sprintf("Code %x", d[:4])] = e
		s := state.New[*tree](o)
		if code, got := s.Code(5); len(code) != 0 || got != e || s.Touched() != 1 || s.Mark() != 0 {
			t.Errorf("P13.3: Code = %q, %d, not %d", code, got, e)
		}
		if e == api.ErrWitness {
			continue
		}
		if a, got := s.Get(5); a.Code != d || got != api.OK {
			t.Errorf("P13.1: Get = %+v, %d", a, got)
		}
		s.SetCode(6, []byte("c"))
		if code, got := s.Code(5); string(code) != "c" || got != api.OK {
			t.Errorf("P13.3: Code of what was set = %q, %d", code, got)
		}
		s.Back(0)
		delete(o.refuse, fmt.Sprintf("Code %x", d[:4]))
		if code, got := s.Code(5); string(code) != "c" || got != api.OK {
			t.Errorf("P13.3: Code, where it is not refused any more = %q, %d", code, got)
		}
	}
	o := newOwn()
	o.account(5, api.Account{Nonce: 1, Code: d, Storage: node.EmptyRoot()})
	if code, e := state.New[*tree](o).Code(5); len(code) != 0 || e != api.ErrWitness {
		t.Errorf("P13.3: Code of what is not there = %q, %d", code, e)
	}
}

// refusals are all changes that a Commit makes, by the trie and the call.
func refusals(o *own) map[string]func(e api.Errno) {
	l := map[string]func(e api.Errno){}
	for _, x := range append(slices.Collect(maps.Values(o.storages)), o.accounts) {
		for _, n := range edges() {
			for _, call := range []string{"put", "delete"} {
				l[fmt.Sprint(x.name, call, n)] = func(e api.Errno) { x.refuse[fmt.Sprint(call, " ", n)] = e }
			}
		}
	}
	return l
}

// R2: a Commit that a trie refuses, at whatever place, has changed nothing that a later call tells: neither of what stands nor of what is taken back then.
func TestR2ACommitThatIsRefused(t *testing.T) {
	for what, w := range someWorlds() {
		refused := 0
		for place := range refusals(ownOf(w)) {
			for _, back := range []int{-1, 0, 7, 20} {
				for _, early := range []int{0, 10} {
					o := ownOf(w)
					b := both{t, state.New[*tree](o), newPlain(w)}
					for i, change := range someChanges() {
						if i == early {
							b.commit()
						}
						change(b)
					}
					if isRefused(b, o, refusals(o)[place], what+": "+place) {
						refused++
						b.back(back)
						b.all(edges(), edges()[:3])
						b.commit()
						b.all(edges(), edges()[:3])
					}
				}
			}
		}
		if refused < 24 {
			t.Errorf("%s: only %d were refused", what, refused)
		}
	}
}

// isRefused lets a trie refuse some change, and tells whether a Commit was refused by that; then it asks for it once more, and that nothing was left behind.
func isRefused(b both, o *own, refuse func(e api.Errno), what string) bool {
	b.t.Helper()
	before := o.kept()
	refuse(api.ErrTrieKey)
	for i := range 2 {
		root, e := b.s.Commit()
		if e == api.OK && i == 0 {
			return false
		}
		if root != (api.Digest{}) || e != api.ErrTrieKey {
			b.t.Fatalf("%s: Commit = %x, %d", what, root, e)
		}
		if !same(o.kept(), before) {
			b.t.Fatalf("R2: %s: a Commit that was refused has left %q, not %q", what, o.kept(), before)
		}
	}
	refuse(api.OK)
	b.same()
	return true
}

// What a Commit is refused with: each error; and ErrWitness of a trie of which a node is not known.
func TestCommitsErrors(t *testing.T) {
	for _, e := range someErrors() {
		for _, call := range []string{"put", "delete"} {
			for _, storage := range []bool{false, true} {
				o := ownOf(someWorlds()["one account"])
				s := state.New[*tree](o)
				x := o.accounts
				if storage {
					x = o.storage(1)
				}
				x.refuse[call] = e
				if storage && call == "put" {
					s.SetSlot(1, 1, 1)
				} else if storage {
					s.SetSlot(1, 1, 0)
				} else if call == "put" {
					s.Set(1, 9, 9)
				} else {
					s.Set(1, 0, 0)
				}
				if root, got := s.Commit(); root != (api.Digest{}) || got != e {
					t.Errorf("P13.6: Commit with a refused %s = %x, %d, not %d", call, root, got, e)
				}
			}
		}
	}
}

// Behind an ErrWitness all calls end.
func TestBehindErrWitness(t *testing.T) {
	o := ownOf(someWorlds()["many"])
	o.accounts.refuse["get 5"] = api.ErrWitness
	o.accounts.refuse["put"] = api.ErrWitness
	s := state.New[*tree](o)
	for _, do := range six() {
		s.Set(1, 2, 3)
		do(s, 5)
		do(s, 1)
		s.Commit()
		s.Back(1)
		s.Back(s.Mark())
		s.Codes()
		s.Touched()
		do(s, 1)
	}
}
