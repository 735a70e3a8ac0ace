package state_test

import (
	"maps"
	"slices"

	"pergola/accounts"
	"pergola/api"
	"pergola/bulk"
	"pergola/node"
	"pergola/words"
)

// place is a slot of an address' storage.
type place struct{ address, slot uint64 }

// world is all that a state tells. What has its empty value may stand there or not.
type world struct {
	accounts map[uint64]api.Account // Storage: as at the last Commit
	slots    map[place]uint64
	set      []string // the codes of all SetCodes that stand
}

func newWorld() world { return world{map[uint64]api.Account{}, map[place]uint64{}, nil} }

func (w world) clone() world {
	return world{maps.Clone(w.accounts), maps.Clone(w.slots), slices.Clone(w.set)}
}

func (w world) account(address uint64) api.Account {
	if a, ok := w.accounts[address]; ok {
		return a
	}
	return api.Account{Code: node.EmptyCode(), Storage: node.EmptyRoot()}
}

// rootOf is the root of some words' values, none of which is empty.
func rootOf(values map[uint64][]byte) api.Digest {
	var l []api.Pair
	for _, n := range slices.Sorted(maps.Keys(values)) {
		l = append(l, api.Pair{Key: words.Key(n), Value: values[n]})
	}
	root, e := bulk.Root(l)
	if e != api.OK {
		panic(e)
	}
	return root
}

// storage is the root of an address' slots.
func (w world) storage(address uint64) api.Digest {
	values := map[uint64][]byte{}
	for p, value := range w.slots {
		if p.address == address && value != 0 {
			values[p.slot] = words.Bytes(value)
		}
	}
	return rootOf(values)
}

// sealed lets each account have the root of its slots, and tells the root of all.
func (w world) sealed() api.Digest {
	for p := range w.slots {
		w.accounts[p.address] = w.account(p.address)
	}
	values := map[uint64][]byte{}
	for address, a := range w.accounts {
		a.Storage = w.storage(address)
		w.accounts[address] = a
		if a != (api.Account{Code: node.EmptyCode(), Storage: node.EmptyRoot()}) {
			values[address] = accounts.Encode(a)
		}
	}
	return rootOf(values)
}

// plain is a state that knows no tries: it keeps the whole world ahead of each change.
type plain struct {
	now       world
	were      []world
	addresses map[uint64]int
	slots     map[place]int
	source    map[api.Digest]string // codes
}

func newPlain(w world) *plain {
	p := &plain{now: w.clone(), addresses: map[uint64]int{}, slots: map[place]int{}, source: map[api.Digest]string{}}
	for _, code := range someCodes()[:6] {
		p.source[name(code)] = code
	}
	return p
}

func (p *plain) change() { p.were = append(p.were, p.now.clone()) }

func (p *plain) get(address uint64) api.Account {
	p.addresses[address]++
	return p.now.account(address)
}

func (p *plain) put(address, nonce, balance uint64) {
	a := p.get(address)
	p.change()
	a.Nonce, a.Balance = nonce, balance
	p.now.accounts[address] = a
}

func (p *plain) slot(address, slot uint64) uint64 {
	p.addresses[address]++
	p.slots[place{address, slot}]++
	return p.now.slots[place{address, slot}]
}

func (p *plain) setSlot(address, slot, value uint64) {
	p.slot(address, slot)
	p.change()
	p.now.slots[place{address, slot}] = value
}

func (p *plain) code(address uint64) (string, api.Errno) {
	d := p.get(address).Code
	if d == node.EmptyCode() {
		return "", api.OK
	}
	for _, code := range p.now.set {
		if name(code) == d {
			return code, api.OK
		}
	}
	code, ok := p.source[d]
	if !ok {
		return "", api.ErrWitness
	}
	return code, api.OK
}

func (p *plain) setCode(address uint64, code string) api.Errno {
	if len(code) > api.MaxCode {
		return api.ErrArg
	}
	a := p.get(address)
	p.change()
	a.Code = name(code)
	p.now.accounts[address] = a
	p.now.set = append(p.now.set, code)
	return api.OK
}

func (p *plain) codes() []string {
	return slices.Compact(slices.Sorted(slices.Values(p.now.set)))
}

func (p *plain) back(mark int) bool {
	if mark < 0 || mark > len(p.were) {
		return false
	}
	if mark < len(p.were) {
		p.now, p.were = p.were[mark], p.were[:mark]
	}
	return true
}

func (p *plain) touched() int { return len(p.addresses) + len(p.slots) }

func (p *plain) commit() api.Digest {
	p.were = nil
	return p.now.sealed()
}
