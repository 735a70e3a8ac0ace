package apply_test

import (
	"fmt"

	"pergola/api"
	"pergola/digest"
	"pergola/words"
)

// tree is a trie of the tests' own: it refuses what its source says, and writes down there what it is asked for.
type tree struct {
	name   string // what its source calls its keys
	values map[string][]byte
	from   *own
}

func (x *tree) Get(key []byte) ([]byte, bool, api.Errno) {
	n, ok := words.Word(key)
	if !ok {
		panic("no word's key")
	}
	if e := x.from.asked(fmt.Sprintf("%s %d", x.name, n)); e != api.OK {
		return nil, false, e
	}
	value, is := x.values[string(key)]
	return value, is, api.OK
}

func (x *tree) Put(key, value []byte) api.Errno {
	x.values[string(key)] = value
	return api.OK
}

func (x *tree) Delete(key []byte) (bool, api.Errno) {
	_, is := x.values[string(key)]
	delete(x.values, string(key))
	return is, api.OK
}

func (x *tree) Root() api.Digest { return api.Digest{} }

// own is a source of such tries. It writes down: `account A`, `storage A`, `slot A N`, `code C`.
type own struct {
	accounts *tree
	storages map[uint64]*tree
	codes    map[api.Digest]string
	refuse   map[string]api.Errno
	log      []string
}

func (o *own) asked(what string) api.Errno {
	o.log = append(o.log, what)
	return o.refuse[what]
}

// calls tells what was asked for since the last time.
func (o *own) calls() []string {
	l := o.log
	o.log = nil
	return l
}

func (o *own) Accounts() *tree { return o.accounts }

func (o *own) Storage(address uint64, root api.Digest) (*tree, api.Errno) {
	return o.storage(address), o.asked(fmt.Sprintf("storage %d", address))
}

func (o *own) storage(address uint64) *tree {
	if o.storages[address] == nil {
		o.storages[address] = o.tree(fmt.Sprintf("slot %d", address))
	}
	return o.storages[address]
}

func (o *own) tree(name string) *tree { return &tree{name, map[string][]byte{}, o} }

func (o *own) Code(d api.Digest) ([]byte, api.Errno) {
	code, is := o.codes[d]
	if !is {
		return nil, api.ErrWitness
	}
	if e := o.asked("code " + code); e != api.OK {
		return []byte("nothing"), e
	}
	return []byte(code), api.OK
}

// ownOf lays a world in.
func ownOf(w world) *own {
	o := &own{storages: map[uint64]*tree{}, codes: map[api.Digest]string{}, refuse: map[string]api.Errno{}}
	o.accounts = o.tree("account")
	for key, value := range fullOf(w).Accounts().All() {
		o.accounts.Put(key, value)
	}
	for _, h := range w.accounts {
		o.codes[digest.Of([]byte(h.code))] = h.code
	}
	for at, value := range w.slots {
		if value != 0 {
			o.storage(at.address).Put(words.Key(at.slot), words.Bytes(value))
		}
	}
	return o
}
