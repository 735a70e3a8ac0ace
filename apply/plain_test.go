package apply_test

import (
	"fmt"
	"maps"
	"math/big"
	"slices"

	"pergola/api"
	"pergola/digest"
	"pergola/state"
	"pergola/vm"
)

// The chapter worked out in a slow way, over maps that are copied whole, with numbers without a bound: what the package is held against. A code alone is done by layer 15, on a state that is made for it and thrown away.

// refusal is how the plain machine gives up.
type refusal api.Errno

type plain struct {
	now     world
	stored  map[uint64]bool // addresses whose account names a storage, since the last Commit
	changes int             // that stand
	codes   []string        // that were set and stand
	lost    *big.Int        // what did not fit into a balance

	asked  map[uint64]bool // addresses that were touched
	looked map[place]bool  // slots that were touched
	refuse map[string]api.Errno
	events map[string]int // what has happened, so that tests can tell whether enough has
}

func newPlain(w world) *plain {
	p := &plain{now: w.clone(), asked: map[uint64]bool{}, looked: map[place]bool{}, lost: new(big.Int), refuse: map[string]api.Errno{}, events: map[string]int{}}
	p.store()
	return p
}

// store notes whose account names a storage.
func (p *plain) store() {
	p.stored = map[uint64]bool{}
	for at, value := range p.now.slots {
		if value != 0 {
			p.stored[at.address] = true
		}
	}
}

// backer tells what takes all back to how it is now.
func (p *plain) backer() func() {
	now, changes, codes, lost := p.now.clone(), p.changes, slices.Clone(p.codes), p.lost
	return func() { p.now, p.changes, p.codes, p.lost = now, changes, codes, lost }
}

// try does what may be refused: then all is as it was.
func (p *plain) try(do func()) (e api.Errno) {
	back := p.backer()
	defer func() {
		switch r := recover().(type) {
		case nil:
		case refusal:
			back()
			e = api.Errno(r)
		default:
			panic(r)
		}
	}()
	do()
	return api.OK
}

func refuse(e api.Errno) {
	if e != api.OK {
		panic(refusal(e))
	}
}

func (p *plain) get(address uint64) holding {
	p.asked[address] = true
	refuse(p.refuse[fmt.Sprintf("account %d", address)])
	return p.now.accounts[address]
}

func (p *plain) set(address, nonce uint64, balance *big.Int) {
	if balance.Sign() < 0 || balance.BitLen() > 64 {
		panic("no balance")
	}
	p.now.accounts[address] = holding{nonce, balance.Uint64(), p.get(address).code}
	p.changes++
}

func (p *plain) touched() int { return len(p.asked) + len(p.looked) }

func (p *plain) check(t api.Tx) api.Errno { return p.try(func() { refuse(p.doCheck(t)) }) }

func (p *plain) doCheck(t api.Tx) api.Errno {
	switch {
	case len(t.Input) > 8 || len(t.Code) > 256 || !t.Make && len(t.Code) > 0 || t.Make && (t.To != 0 || len(t.Input) > 0):
		return api.ErrTxForm
	case t.Gas > 20000:
		return api.ErrTxMost
	case t.Gas < plainLeast(t):
		return api.ErrTxGas
	}
	h := p.get(t.From)
	if h.nonce != t.Nonce || h.nonce == most {
		return api.ErrTxNonce
	}
	if product(t.Gas, t.Price).Cmp(whole(h.balance)) > 0 {
		return api.ErrTxFunds
	}
	return api.OK
}

func plainLeast(t api.Tx) uint64 { return uint64(100 + 2*len(t.Code) + 4*len(t.Input)) }

// plainMade tells the address that the first eight bytes of a digest are the key of.
func plainMade(from, nonce uint64) uint64 {
	d := digest.Of(append(bytesOf(from), bytesOf(nonce)...))
	return new(big.Int).SetBytes(d[:8]).Uint64()
}

func bytesOf(n uint64) []byte { return whole(n).FillBytes(make([]byte, 8)) }

func (p *plain) tx(t api.Tx, number, beneficiary uint64) (r api.Receipt, e api.Errno) {
	if e := p.check(t); e != api.OK {
		p.events[fmt.Sprint("refused ", e)]++
		return api.Receipt{}, e
	}
	e = p.try(func() { r = p.doTx(t, number, beneficiary) })
	if e != api.OK {
		return api.Receipt{}, e
	}
	p.events[fmt.Sprint("ended ", r.Status, " ", t.Make)]++
	return r, api.OK
}

func (p *plain) doTx(t api.Tx, number, beneficiary uint64) api.Receipt {
	h := p.get(t.From)
	p.set(t.From, h.nonce+1, new(big.Int).Sub(whole(h.balance), product(t.Gas, t.Price)))
	back := p.backer()
	o := p.act(t, number)
	if o.Status != 0 {
		back()
	}
	used := t.Gas - o.Gas
	p.add(t.From, product(o.Gas, t.Price))
	p.add(beneficiary, product(used, t.Price))
	r := api.Receipt{Status: o.Status, Gas: used, Result: o.Result}
	if o.Status == 0 && t.Make {
		r.Made = plainMade(t.From, t.Nonce)
	}
	return r
}

// add makes a balance so much more, if there is room for all of it.
func (p *plain) add(address uint64, value *big.Int) {
	if value.Sign() == 0 {
		return
	}
	h := p.get(address)
	all := new(big.Int).Add(whole(h.balance), value)
	if all.BitLen() > 64 {
		p.lost = new(big.Int).Add(p.lost, value)
		p.events["lost"]++
		return
	}
	p.set(address, h.nonce, all)
}

// pay is Pay of chapter 15.
func (p *plain) pay(from, to, value uint64) bool {
	if value == 0 {
		return true
	}
	h := p.get(from)
	if h.balance < value {
		return false
	}
	if from == to {
		return true
	}
	other := p.get(to)
	all := new(big.Int).Add(whole(other.balance), whole(value))
	if all.BitLen() > 64 {
		return false
	}
	p.set(from, h.nonce, whole(h.balance-value))
	p.set(to, other.nonce, all)
	return true
}

func (p *plain) act(t api.Tx, number uint64) api.Outcome {
	gas := t.Gas - plainLeast(t)
	to := t.To
	if t.Make {
		to = plainMade(t.From, t.Nonce)
		if p.get(to) != (holding{}) || p.stored[to] {
			return api.Outcome{Status: 9, Gas: gas}
		}
	}
	if !p.pay(t.From, to, t.Value) {
		return api.Outcome{Status: 8, Gas: gas}
	}
	if !t.Make {
		return p.run(api.Frame{Self: to, Caller: t.From, Value: t.Value, Input: t.Input, Gas: gas, Number: number, Depth: 1})
	}
	p.now.accounts[to] = holding{1, p.now.accounts[to].balance, string(t.Code)}
	p.codes = append(p.codes, string(t.Code))
	p.changes += 2
	return api.Outcome{Gas: gas}
}

// run does a code on a state of its own, and notes what that has touched and changed.
func (p *plain) run(f api.Frame) api.Outcome {
	o := ownOf(p.now)
	o.refuse = p.refuse
	s := state.New[*tree](o)
	out, e := vm.Run(s, f)
	p.changes += s.Mark()
	slots := s.Touched()
	for _, ask := range o.calls() {
		var address uint64
		if n, _ := fmt.Sscanf(ask, "account %d", &address); n == 1 {
			p.asked[address] = true
			slots--
			slots -= p.takeOver(s, address)
		}
	}
	if slots != 0 {
		panic("slots were touched of which the plain machine does not know")
	}
	refuse(e)
	return out
}

// takeOver takes over an address' account and slots as a state that has touched the account has them; it tells how many slots that has touched.
func (p *plain) takeOver(s *state.State[*tree], address uint64) int {
	touched := 0
	a, _ := s.Get(address)
	h := p.now.accounts[address]
	h.nonce, h.balance = a.Nonce, a.Balance
	p.now.accounts[address] = h
	candidates := []uint64{0, 1, 2, 3, 7, 8, most}
	for at := range p.now.slots {
		candidates = append(candidates, at.slot)
	}
	slices.Sort(candidates)
	for _, slot := range slices.Compact(candidates) {
		before := s.Touched()
		value, _ := s.Slot(address, slot)
		if s.Touched() == before {
			touched++
			p.looked[place{address, slot}] = true
			p.now.slots[place{address, slot}] = value
		}
	}
	return touched
}

// total is what all addresses have together.
func (p *plain) total() *big.Int {
	n := new(big.Int)
	for h := range maps.Values(p.now.accounts) {
		n.Add(n, whole(h.balance))
	}
	return n
}

func whole(n uint64) *big.Int { return new(big.Int).SetUint64(n) }

func product(a, b uint64) *big.Int { return new(big.Int).Mul(whole(a), whole(b)) }
