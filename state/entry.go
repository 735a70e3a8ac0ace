package state

import (
	"bytes"

	"pergola/accounts"
	"pergola/api"
	"pergola/words"
)

// entry is what a state has of an address that was touched.
type entry[T Tree] struct {
	looked  bool        // the trie of accounts has told what it has
	value   []byte      // what that is; none, if it has nothing
	account api.Account // as it is now
	changed bool        // a change of it stands that was not committed
	opened  bool        // the source has told the storage
	storage T
	slots   map[uint64]setting // of those that were touched
}

// setting is what a slot was set to, if that stands and was not committed.
type setting struct {
	set   bool
	value uint64
}

// touch tells an address' entry, which may not have been looked at yet.
func (s *State[T]) touch(address uint64) *entry[T] {
	x := s.touched[address]
	if x == nil {
		x = &entry[T]{slots: map[uint64]setting{}}
		s.touched[address] = x
	}
	return x
}

// look touches an address, and has its account.
func (s *State[T]) look(address uint64) (*entry[T], api.Errno) {
	x := s.touch(address)
	if x.looked {
		return x, api.OK
	}
	value, is, e := s.accounts.Get(words.Key(address))
	if e != api.OK {
		return nil, e
	}
	account := accounts.Empty()
	if is {
		if account, e = accounts.Decode(value); e != api.OK {
			return nil, api.ErrWitness
		}
		x.value = bytes.Clone(value)
	}
	x.looked, x.account = true, account
	return x, api.OK
}

// lookSlot touches a slot, also where its account is refused, and has that.
func (s *State[T]) lookSlot(address, slot uint64) (*entry[T], api.Errno) {
	x := s.touch(address)
	if _, ok := x.slots[slot]; !ok {
		x.slots[slot] = setting{}
	}
	return s.look(address)
}

// open tells the trie of the storage of an address that was looked at. A source that refuses it may be asked again.
func (s *State[T]) open(address uint64, x *entry[T]) (T, api.Errno) {
	if x.opened {
		return x.storage, api.OK
	}
	t, e := s.from.Storage(address, x.account.Storage)
	if e == api.OK {
		x.storage, x.opened = t, true
	}
	return t, e
}
