package state

import (
	"bytes"
	"maps"

	"pergola/api"
	"pergola/digest"
	"pergola/node"
	"pergola/trie"
)

// Full is a source that has everything.
type Full struct {
	accounts *trie.Trie
	storages map[uint64]*trie.Trie // by addresses
	codes    shelf
}

// NewFull has nothing.
func NewFull() *Full {
	return &Full{accounts: trie.New(), storages: map[uint64]*trie.Trie{}, codes: shelf{}}
}

func (f *Full) Accounts() *trie.Trie { return f.accounts }

func (f *Full) Storage(address uint64, root api.Digest) (*trie.Trie, api.Errno) {
	t := f.storages[address]
	if t == nil {
		// Whoever asks next must be told the same one, with what was laid into it.
		t = trie.New()
		f.storages[address] = t
	}
	return t, api.OK
}

func (f *Full) Code(d api.Digest) ([]byte, api.Errno) {
	if d == node.EmptyCode() {
		return nil, api.OK
	}
	code, ok := f.codes.first(d)
	if !ok {
		return nil, api.ErrWitness
	}
	return bytes.Clone(code), api.OK
}

// Learn lays a code in.
func (f *Full) Learn(code []byte) api.Digest {
	d := digest.Of(code)
	f.codes.add(d, code)
	return d
}

// Texts tells all nodes and all codes, as bytes.
func (f *Full) Texts() [][]byte {
	// What EmptyRoot and EmptyCode name, though no trie and nobody has told it.
	l := [][]byte{{0x80}, {}}
	l = append(l, f.accounts.Nodes()...)
	for _, t := range f.storages {
		l = append(l, t.Nodes()...)
	}
	return once(append(l, f.codes.all()...))
}

// Open is a state on top of a full source; Clone goes its own way.
func Open(f *Full) *State[*trie.Trie] { return New[*trie.Trie](f) }

func (f *Full) Clone() *Full {
	c := &Full{accounts: f.accounts.Clone(), storages: map[uint64]*trie.Trie{}, codes: maps.Clone(f.codes)}
	for address, t := range f.storages {
		c.storages[address] = t.Clone()
	}
	return c
}
