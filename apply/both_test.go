package apply_test

import (
	"bytes"
	"maps"
	"math/big"
	"slices"
	"testing"

	"pergola/api"
	"pergola/digest"
)

// both is a state and a plain machine, which are given the same calls.
type both struct {
	t    *testing.T
	s    machine
	p    *plain
	what string
}

func (b both) check(t api.Tx) api.Errno {
	b.t.Helper()
	kept := keep(t)
	e := b.s.check(t)
	if want := b.p.check(t); e != want {
		b.t.Fatalf("P17.1: %s: Check(%+v) = %d, not %d", b.what, t, e, want)
	}
	kept.same(b, t)
	b.same()
	return e
}

func (b both) tx(t api.Tx, number, beneficiary uint64) (api.Receipt, api.Errno) {
	b.t.Helper()
	kept := keep(t)
	before, lost, total := b.p.now.clone(), b.p.lost, b.p.total()
	r, e := b.s.tx(t, number, beneficiary)
	want, wantE := b.p.tx(t, number, beneficiary)
	if r != want || e != wantE {
		b.t.Fatalf("P17.2: %s: Tx(%+v, %d, %d) = %+v, %d, not %+v, %d", b.what, t, number, beneficiary, r, e, want, wantE)
	}
	kept.same(b, t)
	b.same()
	b.follows(before, t, beneficiary, r, e)
	gone := new(big.Int).Sub(b.p.lost, lost)
	if total.Sub(total, gone).Cmp(b.p.total()) != 0 {
		b.t.Fatalf("P17.5: %s: all balances together became %d, not %d", b.what, b.p.total(), total)
	}
	return r, e
}

// follows asks for P17.3 and P17.4, of what there is now, which same has held against the state.
func (b both) follows(before world, t api.Tx, beneficiary uint64, r api.Receipt, e api.Errno) {
	b.t.Helper()
	now := b.p.now
	if e != api.OK {
		if r != (api.Receipt{}) || !maps.Equal(trim(before.accounts), trim(now.accounts)) || !maps.Equal(trim(before.slots), trim(now.slots)) {
			b.t.Fatalf("P17.3: %s: refused, with %+v: %#v became %#v", b.what, r, before, now)
		}
		return
	}
	from := now.accounts[t.From]
	if from.nonce != t.Nonce+1 {
		b.t.Fatalf("P17.3: %s: the nonce became %d", b.what, from.nonce)
	}
	if r.Gas < plainLeast(t) || r.Gas > t.Gas {
		b.t.Fatalf("P17.3: %s: used %d gas of %d", b.what, r.Gas, t.Gas)
	}
	if r.Status == api.Done {
		return
	}
	// Nothing but these is another one.
	had := before.accounts[t.From]
	if t.From != beneficiary && had.balance-from.balance != r.Gas*t.Price {
		b.t.Fatalf("P17.4: %s: %d has paid %d", b.what, t.From, had.balance-from.balance)
	}
	mended := before.clone()
	mended.accounts[t.From] = holding{t.Nonce + 1, from.balance, had.code}
	h := mended.accounts[beneficiary]
	h.balance = now.accounts[beneficiary].balance
	mended.accounts[beneficiary] = h
	if !maps.Equal(trim(mended.accounts), trim(now.accounts)) || !maps.Equal(trim(before.slots), trim(now.slots)) {
		b.t.Fatalf("P17.4: %s: ended with %d: %#v became %#v", b.what, r.Status, before, now)
	}
}

// trim lets go of what is as if it were not there.
func trim[K, V comparable](m map[K]V) map[K]V {
	m = maps.Clone(m)
	var none V
	maps.DeleteFunc(m, func(_ K, v V) bool { return v == none })
	return m
}

// same asks for what was touched and changed, which touches nothing; and then for all that was.
func (b both) same() {
	b.t.Helper()
	if n := b.s.Touched(); n != b.p.touched() {
		b.t.Fatalf("%s: touched %d, not %d: %v, %v", b.what, n, b.p.touched(), b.p.asked, b.p.looked)
	}
	if n := b.s.Mark(); n != b.p.changes {
		b.t.Fatalf("%s: %d changes stand, not %d", b.what, n, b.p.changes)
	}
	for _, address := range slices.Sorted(maps.Keys(b.p.asked)) {
		want := b.p.now.accounts[address]
		if a, e := b.s.Get(address); a.Nonce != want.nonce || a.Balance != want.balance || a.Code != digest.Of([]byte(want.code)) || e != api.OK {
			b.t.Fatalf("%s: the account %d is %+v, %d, not %+v", b.what, address, a, e, want)
		}
		if code, e := b.s.Code(address); string(code) != want.code || e != api.OK {
			b.t.Fatalf("%s: the code of %d is %x, %d, not %x", b.what, address, code, e, want.code)
		}
	}
	for at := range b.p.looked {
		want := b.p.now.slots[at]
		if n, e := b.s.Slot(at.address, at.slot); n != want || e != api.OK {
			b.t.Fatalf("%s: the slot %v is %d, %d, not %d", b.what, at, n, e, want)
		}
	}
	if n := b.s.Touched(); n != b.p.touched() {
		b.t.Fatalf("%s: what was touched was not what the plain machine says: %v, %v", b.what, b.p.asked, b.p.looked)
	}
	b.sameCodes()
}

func (b both) sameCodes() {
	b.t.Helper()
	want := slices.Clone(b.p.codes)
	slices.Sort(want)
	want = slices.Compact(want)
	equal := func(code []byte, text string) bool { return string(code) == text }
	if l := b.s.Codes(); !slices.EqualFunc(l, want, equal) {
		b.t.Fatalf("%s: the codes that were set are %x, not %x", b.what, l, want)
	}
}

// commit lays all into the tries: their root is that of the plain machine's world. (An own tree has no root.)
func (b both) commit() {
	b.t.Helper()
	root, e := b.s.Commit()
	if want := fullOf(b.p.now).Accounts().Root(); e != api.OK || root != want && root != (api.Digest{}) {
		b.t.Fatalf("%s: Commit = %x, %d, not %x", b.what, root, e, want)
	}
	b.p.changes = 0
	b.p.store()
}

// kept is a transaction as it was handed in, with the room behind its lists' ends.
type kept struct {
	t     api.Tx
	input []uint64
	code  []byte
}

func keep(t api.Tx) kept {
	return kept{t, slices.Clone(t.Input[:cap(t.Input)]), bytes.Clone(t.Code[:cap(t.Code)])}
}

func (k kept) same(b both, t api.Tx) {
	b.t.Helper()
	if !slices.Equal(t.Input[:cap(t.Input)], k.input) || !bytes.Equal(t.Code[:cap(t.Code)], k.code) {
		b.t.Fatalf("R5: %s: the transaction became %+v", b.what, t)
	}
}
