package state

import (
	"bytes"
	"slices"

	"pergola/accounts"
	"pergola/api"
	"pergola/words"
)

// Commit lays all changes into the tries, and tells the root.
func (s *State[T]) Commit() (api.Digest, api.Errno) {
	mark := s.Mark()
	changed := rising(s.touched, func(x *entry[T]) bool { return x.changed })
	for _, address := range changed {
		if e := s.lay(address, s.touched[address]); e != api.OK {
			// The changes themselves stand; what was laid of them was kept behind them.
			s.Back(mark)
			return api.Digest{}, e
		}
	}
	for _, address := range changed {
		s.touched[address].settle()
	}
	s.back = nil
	return s.accounts.Root(), api.OK
}

// rising tells the keys of those things of a map that are asked for, in their order.
func rising[V any](m map[uint64]V, wanted func(V) bool) []uint64 {
	var l []uint64
	for n, v := range m {
		if wanted(v) {
			l = append(l, n)
		}
	}
	slices.Sort(l)
	return l
}

// lay lays the changes of an address into the tries.
func (s *State[T]) lay(address uint64, x *entry[T]) api.Errno {
	account, value := x.account, x.value
	s.keep(func() { x.account, x.value = account, value })
	if e := s.laySlots(address, x); e != api.OK {
		return e
	}
	x.value = written(x.account)
	if e := put(s.accounts, words.Key(address), x.value); e != api.OK {
		return e
	}
	s.keep(func() { put(s.accounts, words.Key(address), value) })
	return api.OK
}

func isSet(now setting) bool { return now.set }

// laySlots lays the slots of an address that were set into its storage's trie, if there are any.
func (s *State[T]) laySlots(address uint64, x *entry[T]) api.Errno {
	slots := rising(x.slots, isSet)
	if len(slots) == 0 {
		return api.OK
	}
	t, e := s.open(address, x)
	if e != api.OK {
		return e
	}
	for _, slot := range slots {
		back := restorer(t, words.Key(slot))
		if e := put(t, words.Key(slot), accounts.Value(x.slots[slot].value)); e != api.OK {
			return e
		}
		s.keep(back)
	}
	x.account.Storage = t.Root()
	return api.OK
}

// restorer tells what gives a key of a trie the value again that it has now. To ask for that comes by no other nodes than the change that follows.
func restorer[T Tree](t T, key []byte) func() {
	value, is, e := t.Get(key)
	switch {
	case e != api.OK:
		// The trie may take the change all the same; what it does not tell can not be given back.
		return func() {}
	case !is:
		return func() { t.Delete(key) }
	}
	value = bytes.Clone(value)
	return func() { t.Put(key, value) }
}

// written is an account as the trie of accounts has it: the empty one does not stand there.
func written(a api.Account) []byte {
	if accounts.Is(a) {
		return nil
	}
	return accounts.Encode(a)
}

// put gives a key of a trie a value; if that is none, it takes the key's away.
func put[T Tree](t T, key, value []byte) api.Errno {
	if len(value) == 0 {
		_, e := t.Delete(key)
		return e
	}
	return t.Put(key, value)
}

// settle lets an entry's changes be those that the tries have.
func (x *entry[T]) settle() {
	x.changed = false
	for _, slot := range rising(x.slots, isSet) {
		x.slots[slot] = setting{}
	}
}
