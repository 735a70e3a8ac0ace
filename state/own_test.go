package state_test

import (
	"fmt"
	"maps"

	"pergola/accounts"
	"pergola/api"
	"pergola/words"
)

// tree is a trie of the tests' own: it refuses what it is told to, and writes down what it is asked for.
type tree struct {
	name   string
	values map[string]string
	refuse map[string]api.Errno // by the call, or by the call and the word that its key is
	log    *[]string
	room   []byte // what the last Get told: it is written over with the next call
}

// asked writes a call down, and tells whether it is refused.
func (x *tree) asked(call string, key []byte) api.Errno {
	n, ok := words.Word(key)
	if !ok {
		panic("no word's key")
	}
	scribble(x.room)
	*x.log = append(*x.log, fmt.Sprintf("%s %s %d", x.name, call, n))
	if e := x.refuse[fmt.Sprintf("%s %d", call, n)]; e != api.OK {
		return e
	}
	return x.refuse[call]
}

// Beside a refusal, and where there is nothing, it tells what nobody should look at.
func (x *tree) Get(key []byte) ([]byte, bool, api.Errno) {
	if e := x.asked("get", key); e != api.OK {
		return []byte("nothing"), true, e
	}
	value, is := x.values[string(key)]
	if !is {
		value = "nothing"
	}
	x.room = append(x.room[:0], value...)
	return x.room, is, api.OK
}

func (x *tree) Put(key, value []byte) api.Errno {
	e := x.asked("put", key)
	if e == api.OK && len(value) == 0 {
		e = api.ErrTrieValue
	}
	if e == api.OK {
		x.values[string(key)] = string(value)
	}
	return e
}

func (x *tree) Delete(key []byte) (bool, api.Errno) {
	if e := x.asked("delete", key); e != api.OK {
		return true, e
	}
	_, is := x.values[string(key)]
	delete(x.values, string(key))
	return is, api.OK
}

func (x *tree) Root() api.Digest {
	values := map[uint64][]byte{}
	for key, value := range x.values {
		n, _ := words.Word([]byte(key))
		values[n] = []byte(value)
	}
	return rootOf(values)
}

// own is a source of such tries.
type own struct {
	accounts *tree
	storages map[uint64]*tree
	roots    map[uint64]api.Digest // that a storage was asked for with
	codes    map[api.Digest][]byte
	refuse   map[string]api.Errno // by what is asked for
	log      *[]string
}

func newOwn() *own {
	o := &own{storages: map[uint64]*tree{}, roots: map[uint64]api.Digest{}, codes: map[api.Digest][]byte{}, refuse: map[string]api.Errno{}, log: new([]string)}
	o.accounts = o.tree("accounts")
	return o
}

func (o *own) tree(name string) *tree {
	return &tree{name: name, values: map[string]string{}, refuse: map[string]api.Errno{}, log: o.log}
}

// storage is the trie of an address, as the test sees it.
func (o *own) storage(address uint64) *tree {
	if o.storages[address] == nil {
		o.storages[address] = o.tree(fmt.Sprint(address))
	}
	return o.storages[address]
}

func (o *own) asked(what string) api.Errno {
	*o.log = append(*o.log, what)
	return o.refuse[what]
}

func (o *own) Accounts() *tree {
	o.asked("Accounts")
	return o.accounts
}

func (o *own) Storage(address uint64, root api.Digest) (*tree, api.Errno) {
	o.roots[address] = root
	if e := o.asked(fmt.Sprintf("Storage %d", address)); e != api.OK {
		return nil, e
	}
	return o.storage(address), api.OK
}

// Code tells its own memory; beside a refusal it tells what nobody should look at.
func (o *own) Code(d api.Digest) ([]byte, api.Errno) {
	if e := o.asked(fmt.Sprintf("Code %x", d[:4])); e != api.OK {
		return []byte("nothing"), e
	}
	code, ok := o.codes[d]
	if !ok {
		return nil, api.ErrWitness
	}
	return code, api.OK
}

// account lays an account in.
func (o *own) account(address uint64, a api.Account) {
	o.accounts.values[string(words.Key(address))] = string(accounts.Encode(a))
}

// slot lays a slot in; the root that its account names is the caller's.
func (o *own) slot(address, slot, value uint64) {
	o.storage(address).values[string(words.Key(slot))] = string(words.Bytes(value))
}

// ownOf lays a world in, as fullOf does.
func ownOf(w world) *own {
	o := newOwn()
	for address, a := range w.accounts {
		if !accounts.Is(a) {
			o.account(address, a)
		}
	}
	for p, value := range w.slots {
		o.slot(p.address, p.slot, value)
	}
	for _, code := range someCodes()[:6] {
		o.codes[name(code)] = []byte(code)
	}
	return o
}

// kept are all values of all tries.
func (o *own) kept() map[string]map[string]string {
	l := map[string]map[string]string{"accounts": maps.Clone(o.accounts.values)}
	for _, x := range o.storages {
		if len(x.values) > 0 {
			l[x.name] = maps.Clone(x.values)
		}
	}
	return l
}

// calls tells what was asked since the last time.
func (o *own) calls() []string {
	l := *o.log
	*o.log = nil
	return l
}
