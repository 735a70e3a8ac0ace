package apply_test

import (
	"fmt"
	"math/big"
	"testing"

	"pergola/api"
	"pergola/apply"
	"pergola/state"
	"pergola/trie"
)

// sorts are a world and transactions of 1, one for each Status; those that call write, and pay 3, ahead of their end.
func sorts() (world, map[int]api.Tx) {
	ends := map[int]string{
		api.Done: "push 5 return", api.Reverted: "push 5 revert", api.NoGas: "mark push 32 jump", api.Overflow: times(33, "push 1"),
		api.Underflow: times(4, "pop"), api.TooDeep: calling(15, 0, 0, most), api.BadOp: "byte 255", api.BadJump: "push 0 jump",
	}
	w := sparse(map[uint64]holding{1: {balance: 10000}, 9: {4, 50, coded("stop")}, 8: {balance: 40}})
	w.slots[place{8, 7}] = 6
	l := map[int]api.Tx{}
	for status, end := range ends {
		to := uint64(10 + status)
		text := "push 7 push 5 store " + calling(8, 3, 0, 0) + calling(1, 2, 0, 0) + calling(9, 1, 0, 0)
		w.accounts[to] = holding{1, 20, coded(text + end)}
		w.slots[place{to, 7}] = 99
		l[status] = api.Tx{From: 1, Gas: 2000, Price: 2, To: to, Value: 11}
	}
	l[api.NoFunds] = api.Tx{From: 1, Gas: 300, Price: 2, To: 10, Value: 9401}
	l[api.Taken] = making(300, 11, "a")
	w.accounts[plainMade(1, 0)] = holding{balance: 5}
	return w, l
}

// Each Status: its receipt, and what it leaves.
func TestP174EachStatus(t *testing.T) {
	w, l := sorts()
	wants := map[int]api.Receipt{
		api.Done: {Gas: 255, Result: 5}, api.Reverted: {Status: api.Reverted, Gas: 255, Result: 5}, api.NoFunds: receipt(api.NoFunds, 100), api.Taken: receipt(api.Taken, 102),
	}
	if len(l) != api.Taken+1 {
		t.Fatal("a Status is missing")
	}
	for status, x := range l {
		want, ok := wants[status]
		if !ok {
			want = receipt(status, x.Gas)
		}
		s := state.Open(fullOf(w))
		if r, e := apply.Tx(s, x, 77, 9); r != want || e != api.OK {
			t.Errorf("P17.2: %+v, %d, not %+v", r, e, want)
		}
		root, e := s.Commit()
		left := w.with(1, holding{1, 10000 - 2*want.Gas, ""}).with(9, holding{4, 50 + 2*want.Gas, coded("stop")})
		if status == api.Done {
			left = left.with(1, holding{1, 10000 - 2*want.Gas - 11 + 2, ""}).with(9, holding{4, 51 + 2*want.Gas, coded("stop")})
			left = left.with(8, holding{balance: 43}).with(10, holding{1, 20 + 11 - 6, w.accounts[10].code})
			left.slots[place{10, 7}] = 5
		}
		if e != api.OK || root != fullOf(left).Accounts().Root() {
			t.Errorf("P17.4: ended with %d: the root is not that of what should be left", status)
		}
		if len(s.Codes()) != 0 {
			t.Errorf("P17.4: ended with %d: the codes %x are set", status, s.Codes())
		}
	}
}

// The gas that was used: from what is paid ahead of all to all that there is.
func TestP173TheGasThatWasUsed(t *testing.T) {
	w, l := sorts()
	for status, x := range l {
		for _, gas := range []uint64{102, 103, 122, 123, 124, 170, 210, 253, 254, 255, 256, 257, 300, 1000, 2000} {
			x.Gas, x.Price = gas, 1
			onEach(t, fmt.Sprintf("for %d, with %d gas", status, gas), w, func(b both) {
				r, e := b.tx(x, 77, 9)
				if e != api.OK || r.Gas < 100 || r.Gas > gas || r.Status == api.NoGas && r.Gas != gas {
					t.Errorf("P17.3: %s: %+v, %d", b.what, r, e)
				}
				if one, _ := b.s.Get(1); one.Nonce != 1 || r.Status != api.Done && one.Balance != 10000-r.Gas {
					t.Errorf("P17.4: %s: %+v, then 1 is %+v", b.what, r, one)
				}
			})
		}
	}
}

// Refused ones leave the root as it was.
func TestP173Refused(t *testing.T) {
	w, l := sorts()
	root := fullOf(w).Accounts().Root()
	for status, x := range l {
		for fault, wrong := range []func(x *api.Tx){
			func(x *api.Tx) { x.Input, x.Make = wordsOf(9), false },
			func(x *api.Tx) { x.Gas = api.MaxGas + 1 },
			func(x *api.Tx) { x.Gas = 99 },
			func(x *api.Tx) { x.Nonce++ },
			func(x *api.Tx) { x.Price = 101 },
			func(x *api.Tx) { x.Price = most },
		} {
			x := x
			wrong(&x)
			s := state.Open(fullOf(w))
			if r, e := apply.Tx(s, x, 77, 9); r != (api.Receipt{}) || e == api.OK {
				t.Errorf("P17.3: the fault %d: %+v, %d", fault, r, e)
			}
			if s.Mark() != 0 {
				t.Errorf("P17.3: the fault %d: %d changes stand", fault, s.Mark())
			}
			if n := s.Touched(); n > 1 || n == 1 && fault < 3 {
				t.Errorf("P17.3: the fault %d: touched %d", fault, n)
			}
			if now, e := s.Commit(); now != root || e != api.OK {
				t.Errorf("P17.3: the fault %d, of one for %d: another root", fault, status)
			}
		}
	}
}

// totalOf is what all accounts of a world, and the beneficiary, have together.
func totalOf(s *state.State[*trie.Trie], w world, beneficiary uint64) *big.Int {
	n := new(big.Int)
	for address := range w.with(beneficiary, holding{}).accounts {
		a, _ := s.Get(address)
		n.Add(n, whole(a.Balance))
	}
	return n
}

// All balances together stay what they were; what finds no room alone is gone.
func TestP175AllBalances(t *testing.T) {
	w, l := sorts()
	for status, x := range l {
		for _, beneficiary := range []uint64{1, x.To, 8, 9, 77, plainMade(1, 0)} {
			s := state.Open(fullOf(w))
			before := totalOf(s, w, beneficiary)
			if r, e := apply.Tx(s, x, 77, beneficiary); e != api.OK {
				t.Fatalf("P17.5: %+v, %d", r, e)
			}
			if after := totalOf(s, w, beneficiary); after.Cmp(before) != 0 {
				t.Errorf("P17.5: one for %d, beneficiary %d: %d became %d", status, beneficiary, before, after)
			}
		}
		rich := w.with(77, holding{balance: most - 3})
		s := state.Open(fullOf(rich))
		before := totalOf(s, rich, 77)
		r, _ := apply.Tx(s, x, 77, 77)
		lost := before.Sub(before, totalOf(s, rich, 77))
		if lost.Cmp(whole(2*r.Gas)) != 0 {
			t.Errorf("P17.5: one for %d: %d was lost of the fee of %d", status, lost, 2*r.Gas)
		}
	}
}
