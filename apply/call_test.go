package apply_test

import (
	"fmt"
	"testing"

	"pergola/api"
)

// How codes end: 500 gas at a price of 1, to 2, with a value of 7.
func TestP172CallByItsEnd(t *testing.T) {
	for _, k := range []struct {
		what, text string
		want       api.Receipt
	}{
		{"no code", "", api.Receipt{Gas: 100}},
		{"stop", "stop", api.Receipt{Gas: 100}},
		{"behind its end", "push 9", api.Receipt{Gas: 101}},
		{"return", "push 9 return", api.Receipt{Gas: 101, Result: 9}},
		{"return the greatest", "push 0 push 1 sub return", api.Receipt{Gas: 103, Result: most}},
		{"a store", "push 7 push 5 store", api.Receipt{Gas: 122}},
		{"revert", "push 9 revert", api.Receipt{Status: api.Reverted, Gas: 101, Result: 9}},
		{"revert with nothing", "push 0 revert", api.Receipt{Status: api.Reverted, Gas: 101}},
		{"revert a store", "push 7 push 5 store push 8 revert", api.Receipt{Status: api.Reverted, Gas: 123, Result: 8}},
		{"no gas", "push 7 push 5 store mark push 5 jump", receipt(api.NoGas, 500)},
		{"overflow", "push 7 push 5 store " + times(33, "push 1"), receipt(api.Overflow, 500)},
		{"no overflow", "push 7 push 5 store " + times(32, "push 1"), api.Receipt{Gas: 154}},
		{"underflow", "push 7 push 5 store pop", receipt(api.Underflow, 500)},
		{"too deep", "push 7 push 5 store " + calling(2, 0, 0, most), receipt(api.TooDeep, 500)},
		{"a bad operation", "push 7 push 5 store byte 255", receipt(api.BadOp, 500)},
		{"a push that is cut off", "push 7 push 5 store byte 39", receipt(api.BadOp, 500)},
		{"a bad jump", "push 7 push 5 store push 0 jump", receipt(api.BadJump, 500)},
		{"a call of nobody", calling(6, 3, 0, 0) + "return", api.Receipt{Gas: 144, Result: 1}},
		{"a call that can't be paid", calling(6, 8, 0, 0) + "return", api.Receipt{Gas: 144}},
		{"a fault of what is called", "push 7 push 5 store " + calling(3, 3, 0, 10), receipt(api.BadOp, 500)},
		{"a revert of what is called", "push 7 push 5 store " + calling(4, 3, 0, 100) + "result return", api.Receipt{Gas: 190, Result: 4}},
		{"a store of what is called", calling(5, 3, 0, 100) + "return", api.Receipt{Gas: 166, Result: 1}},
	} {
		w := sparse(map[uint64]holding{2: {code: coded(k.text)}, 3: {code: "\xff"}, 4: {code: coded("push 7 push 6 store push 4 revert")}, 5: {code: coded("push 7 push 6 store")}})
		x := api.Tx{From: 1, Gas: 500, Price: 1, To: 2, Value: 7}
		onEach(t, k.what, w, func(b both) {
			if r, e := b.tx(x, 77, 9); r != k.want || e != api.OK {
				t.Errorf("P17.2: %s: %+v, %d, not %+v", b.what, r, e, k.want)
			}
			one, _ := b.s.Get(1)
			two, _ := b.s.Get(2)
			six, _ := b.s.Get(6)
			nine, _ := b.s.Get(9)
			slot, _ := b.s.Slot(2, 7)
			if k.want.Status != api.Done && (one.Balance != 1000-k.want.Gas || two.Balance != 0 || slot != 0 || six.Balance != 0) {
				t.Errorf("P17.4: %s: 1 has %d, 2 has %d, its slot %d", b.what, one.Balance, two.Balance, slot)
			}
			if k.want.Status == api.Done && one.Balance != 993-k.want.Gas {
				t.Errorf("P17.2: %s: 1 has %d", b.what, one.Balance)
			}
			if nine.Balance != k.want.Gas || one.Nonce != 1 {
				t.Errorf("P17.2: %s: 9 has %d, the nonce is %d", b.what, nine.Balance, one.Nonce)
			}
			b.commit()
		})
	}
}

// A store that is done stands, in the storage of To.
func TestP172AStoreStands(t *testing.T) {
	onEach(t, "a store", callee("push 7 push 0 input store push 8 load push 1 add push 8 swap 0 store"), func(b both) {
		for i := range uint64(3) {
			x := api.Tx{From: 1, Nonce: i, Gas: 200, To: 2, Input: []uint64{50 + i}}
			if r, e := b.tx(x, 1, 9); r.Status != api.Done || e != api.OK {
				t.Fatalf("P17.2: %s: %+v, %d", b.what, r, e)
			}
			seven, _ := b.s.Slot(2, 7)
			eight, _ := b.s.Slot(2, 8)
			if seven != 50+i || eight != i+1 {
				t.Errorf("P17.2: %s: the slots are %d, %d", b.what, seven, eight)
			}
			if other, _ := b.s.Slot(1, 7); other != 0 {
				t.Errorf("P17.2: %s: the sender's slot is %d", b.what, other)
			}
			b.p.asked[1], b.p.looked[place{1, 7}] = true, true
			if i == 1 {
				b.commit()
			}
		}
	})
}

// What the code sees of the transaction and of the block; what the sender has meanwhile: all of the fee is gone, and nobody has it.
func TestP172WhatTheCodeSees(t *testing.T) {
	x := api.Tx{From: 1, Nonce: 0, Gas: 200, Price: 2, To: 2, Value: 7, Input: []uint64{11, 0, most, 14, 15, 16, 17, 18}}
	for text, want := range map[string]uint64{
		"number return": 77, "caller return": 1, "self return": 2, "value return": 7, "gas return": 67, "result return": 0,
		"push 1 balance return": 593, "push 2 balance return": 7, "push 9 balance return": 30, "push 7 load return": 0,
		"push 0 input return": 11, "push 1 input return": 0, "push 2 input return": most, "push 3 input return": 14, "push 4 input return": 15,
		"push 5 input return": 16, "push 6 input return": 17, "push 7 input return": 18, "push 8 input return": 0, "push 4294967296 input return": 0,
	} {
		w := sparse(map[uint64]holding{2: {code: coded(text)}, 9: {balance: 30}})
		onEach(t, text, w, func(b both) {
			if r, e := b.tx(x, 77, 9); r.Result != want || r.Status != api.Done || e != api.OK {
				t.Errorf("P17.2: %s: %+v, %d, not %d", b.what, r, e, want)
			}
		})
	}
}

// Words of all kinds, as the number, the sender, the value, and the address that is called.
func TestP172AnyWordsAreSeen(t *testing.T) {
	for _, n := range []uint64{0, 1, 255, 256, 1 << 32, 1 << 63, most} {
		for _, what := range []string{"number", "caller", "value", "self"} {
			x := api.Tx{From: n, Gas: 200, To: 50, Value: n}
			w := sparse(map[uint64]holding{n: {0, most, ""}, 50: {0, 0, coded(what + " return")}})
			if what == "self" {
				x.To, x.Value = n, 0
				w = sparse(map[uint64]holding{n: {0, 0, coded("self return")}})
			}
			onEach(t, fmt.Sprintf("%s %d", what, n), w, func(b both) {
				if r, e := b.tx(x, n, 9); r != (api.Receipt{Gas: 101, Result: n}) || e != api.OK {
					t.Errorf("P17.2: %s: %+v, %d", b.what, r, e)
				}
			})
		}
	}
}

// Codes that call the sender, the beneficiary, somebody else, and themselves; whoever is called stores, and tells its value.
func TestP172WhomTheCodeCalls(t *testing.T) {
	const stores = "push 7 value store value return"
	for _, k := range []struct {
		what, text  string
		beneficiary uint64
		want        api.Receipt
		then        balances
		slot        place
	}{
		// 44 for the call, 23 for what is called, 1 for its result.
		{"the sender", calling(1, 5, 3, most) + "result return", 9, api.Receipt{Gas: 168, Result: 5}, balances{1: 662, 2: 12, 9: 366}, place{1, 7}},
		{"the beneficiary", calling(9, 5, 3, most) + "result return", 9, api.Receipt{Gas: 168, Result: 5}, balances{1: 657, 2: 12, 9: 371}, place{9, 7}},
		{"both, who are one", calling(1, 5, 3, most) + "result return", 1, api.Receipt{Gas: 168, Result: 5}, balances{1: 998, 2: 12, 9: 30}, place{1, 7}},
		{"somebody", calling(3, 5, 3, most) + "result return", 9, api.Receipt{Gas: 168, Result: 5}, balances{1: 657, 2: 12, 3: 5, 9: 366}, place{3, 7}},
		{"somebody, for itself", calling(3, 5, 3, most) + "result return", 2, api.Receipt{Gas: 168, Result: 5}, balances{1: 657, 2: 348, 3: 5, 9: 30}, place{3, 7}},
		{"nobody", calling(6, 5, 3, most) + "return", 9, api.Receipt{Gas: 144, Result: 1}, balances{1: 705, 2: 12, 6: 5, 9: 318}, place{}},
		{"the sender, with more than there is", calling(1, 18, 3, most) + "result return", 9, api.Receipt{Gas: 145}, balances{1: 703, 2: 17, 9: 320}, place{}},
		// Itself once: 7 ahead of each, 44 for the call, 24 for the one that is called, 1 for its result.
		{"itself", "caller self equal push 24 jumpif " + calling(2, 5, 3, most) + "result return mark " + stores, 9, api.Receipt{Gas: 183, Result: 5}, balances{1: 627, 2: 17, 9: 396}, place{2, 7}},
	} {
		w := sparse(map[uint64]holding{1: {0, 1000, coded(stores)}, 2: {0, 10, coded(k.text)}, 3: {0, 0, coded(stores)}, 9: {0, 30, coded(stores)}})
		ends(t, k.what, w, paying(300, 7), k.beneficiary, k.want, k.then)
		onEach(t, k.what, w, func(b both) {
			b.tx(paying(300, 7), 1, k.beneficiary)
			if n, e := b.s.Slot(k.slot.address, k.slot.slot); k.slot != (place{}) && (n != 5 || e != api.OK) {
				t.Errorf("P17.2: %s: the slot is %d, %d", b.what, n, e)
			}
		})
	}
}

// The first call has the depth 1: three more stand in it, and no fourth.
func TestP172HowDeep(t *testing.T) {
	w := sparse(map[uint64]holding{
		2: {code: coded(calling(3, 0, 0, most) + "return")}, 3: {code: coded(calling(4, 0, 0, most) + "return")}, 4: {code: coded(calling(5, 0, 0, most) + "return")},
		5: {code: coded("push 7 return")}, 6: {code: coded(calling(2, 0, 0, most) + "return")},
	})
	x := api.Tx{From: 1, Gas: 500, Price: 1, To: 2}
	ends(t, "three", w, x, 9, api.Receipt{Gas: 233, Result: 1}, balances{1: 767, 9: 233})
	x.To = 6
	ends(t, "four", w, x, 9, receipt(api.TooDeep, 500), balances{1: 500, 9: 500})
}
