package apply_test

import (
	"bytes"
	"fmt"
	"slices"
	"testing"

	"pergola/api"
	"pergola/digest"
	"pergola/node"
	"pergola/state"
	"pergola/trie"
	"pergola/tx"
)

// someCodes are codes of each length at an edge, of bytes that are operations, and of such that are none: a code that is made is not done.
func someCodes() []string {
	l := []string{coded("stop"), coded("push 1 push 1 store push 5 revert"), coded("mark push 0 jump"), coded("pop"), "\xff", "\x27"}
	for _, n := range []int{0, 1, 2, 31, 32, 33, 127, 255, 256} {
		for _, fill := range []byte{0, 0x42, 0x80, 0xff} {
			l = append(l, string(bytes.Repeat([]byte{fill}, n)))
		}
	}
	return l
}

// What the made account has, and all else, for each code; of the gas no more is used than that ahead of all.
func TestP172Make(t *testing.T) {
	made := plainMade(1, 0)
	for _, code := range someCodes() {
		least := uint64(100 + 2*len(code))
		for _, more := range []uint64{0, 1, 50} {
			for _, value := range []uint64{0, 1, 2000 - 2*612 - 2*50} {
				w := sparse(map[uint64]holding{1: {balance: 2000}})
				onEach(t, fmt.Sprintf("the code %x, %d gas more, value %d", code, more, value), w, func(b both) {
					r, e := b.tx(making(least+more, value, code), 77, 9)
					if r != (api.Receipt{Gas: least, Made: made}) || e != api.OK {
						t.Errorf("P17.2: %s: %+v, %d", b.what, r, e)
					}
					if a, _ := b.s.Get(made); a != (api.Account{Nonce: 1, Balance: value, Code: digest.Of([]byte(code)), Storage: node.EmptyRoot()}) {
						t.Errorf("P17.2: %s: it has %+v", b.what, a)
					}
					if got, e := b.s.Code(made); string(got) != code || e != api.OK {
						t.Errorf("P17.2: %s: its code is %x, %d", b.what, got, e)
					}
					if l := b.s.Codes(); len(l) != 1 || string(l[0]) != code {
						t.Errorf("P17.2: %s: the codes that were set are %x", b.what, l)
					}
					one, _ := b.s.Get(1)
					nine, _ := b.s.Get(9)
					if one.Balance != 2000-2*least-value || one.Nonce != 1 || nine.Balance != 2*least {
						t.Errorf("P17.2: %s: %+v, %+v", b.what, one, nine)
					}
					b.commit()
				})
			}
		}
	}
}

// What is at the address ahead of it.
func TestP172WhatIsAtTheAddress(t *testing.T) {
	made := plainMade(1, 0)
	taken, done := receipt(api.Taken, 102), api.Receipt{Gas: 102, Made: made}
	for _, k := range []struct {
		what string
		w    world
		do   func(s machine, p *plain)
		want api.Receipt
	}{
		{"nothing", sparse(nil), nil, done},
		{"a balance alone", sparse(map[uint64]holding{made: {balance: 1}}), nil, taken},
		{"the greatest balance", sparse(map[uint64]holding{made: {balance: most}}), nil, taken},
		{"a nonce alone", sparse(map[uint64]holding{made: {nonce: 1}}), nil, taken},
		{"the greatest nonce", sparse(map[uint64]holding{made: {nonce: most}}), nil, taken},
		{"a code alone", sparse(map[uint64]holding{made: {code: "\x00"}}), nil, taken},
		{"this code alone", sparse(map[uint64]holding{made: {code: "a"}}), nil, taken},
		{"a storage alone", world{sparse(nil).accounts, map[place]uint64{{made, 7}: 1}}, nil, taken},
		{"another one's storage", world{sparse(nil).accounts, map[place]uint64{{2, 7}: 1}}, nil, done},
		{"a slot of no value", world{sparse(nil).accounts, map[place]uint64{{made, 7}: 0}}, nil, done},
		{"a balance that has been set", sparse(nil), func(s machine, p *plain) {
			s.Set(made, 0, 3)
			p.set(made, 0, whole(3))
		}, taken},
		{"a balance that has been set to nothing", sparse(map[uint64]holding{made: {balance: 1}}), func(s machine, p *plain) {
			s.Set(made, 0, 0)
			p.set(made, 0, whole(0))
		}, done},
		{"a balance that has been taken back", sparse(nil), func(s machine, p *plain) {
			s.Set(made, 0, 3)
			s.Back(0)
			p.asked[made] = true
		}, done},
		{"a code that has been set", sparse(nil), func(s machine, p *plain) {
			s.SetCode(made, []byte{1})
			p.get(made)
			p.now.accounts[made] = holding{code: "\x01"}
			p.codes = append(p.codes, "\x01")
			p.changes++
		}, taken},
		{"a code of no bytes that has been set", sparse(nil), func(s machine, p *plain) {
			s.SetCode(made, nil)
			p.get(made)
			p.codes = append(p.codes, "")
			p.changes++
		}, done},
		// An account's storage is the one of the last Commit: till then it is empty.
		{"a slot that has been set", sparse(nil), func(s machine, p *plain) {
			s.SetSlot(made, 7, 5)
			p.get(made)
			p.looked[place{made, 7}] = true
			p.now.slots[place{made, 7}] = 5
			p.changes++
		}, done},
	} {
		onEach(t, k.what, k.w, func(b both) {
			if k.do != nil {
				k.do(b.s, b.p)
				b.same()
			}
			if r, e := b.tx(making(140, 5, "a"), 77, 9); r != k.want || e != api.OK {
				t.Errorf("P17.2: %s: %+v, %d, not %+v", b.what, r, e, k.want)
			}
			one, _ := b.s.Get(1)
			if want := map[int]uint64{api.Done: 791, api.Taken: 796}[k.want.Status]; one.Balance != want || one.Nonce != 1 {
				t.Errorf("P17.2: %s: then 1 is %+v", b.what, one)
			}
			b.commit()
		})
	}
}

// A slot that has been committed is a storage: then the address is taken, though nothing else was set there.
func TestP172ASlotThatIsCommitted(t *testing.T) {
	made := plainMade(1, 0)
	s := state.Open(state.NewFull())
	s.Set(1, 0, 1000)
	s.SetSlot(made, 7, 5)
	s.Commit()
	b := on[*trie.Trie]{s}
	if r, e := b.tx(making(140, 5, "a"), 1, 9); r != receipt(api.Taken, 102) || e != api.OK {
		t.Errorf("P17.2: %+v, %d", r, e)
	}
}

// A value that can't be paid: nothing is laid; where the address is taken, that is told.
func TestP172MakeWithoutFunds(t *testing.T) {
	made := plainMade(1, 0)
	for _, k := range []struct {
		gas, value uint64
		status     int
		balance    uint64
	}{
		{102, 796, api.Done, 0}, {102, 797, api.NoFunds, 796}, {152, 696, api.Done, 100}, {152, 697, api.NoFunds, 796}, {152, 796, api.NoFunds, 796}, {500, 0, api.Done, 796}, {500, 1, api.NoFunds, 796}, {102, most, api.NoFunds, 796},
	} {
		onEach(t, fmt.Sprintf("gas %d, value %d", k.gas, k.value), sparse(nil), func(b both) {
			r, e := b.tx(making(k.gas, k.value, "a"), 77, 9)
			if r.Status != k.status || r.Gas != 102 || (r.Made == made) != (k.status == api.Done) || e != api.OK {
				t.Errorf("P17.2: %s: %+v, %d", b.what, r, e)
			}
			if one, _ := b.s.Get(1); one.Balance != k.balance {
				t.Errorf("P17.2: %s: then 1 has %d, not %d", b.what, one.Balance, k.balance)
			}
			if a, _ := b.s.Get(made); k.status == api.NoFunds && (a != api.Account{Code: node.EmptyCode(), Storage: node.EmptyRoot()} || len(b.s.Codes()) != 0) {
				t.Errorf("P17.2: %s: it has %+v", b.what, a)
			}
			b.commit()
		})
		w := sparse(map[uint64]holding{made: {balance: most}})
		ends(t, "taken, and no funds", w, making(k.gas, k.value, "a"), 9, receipt(api.Taken, 102), balances{1: 796, made: most, 9: 204})
	}
}

// The address is told by the sender and by the nonce that the transaction has; two nonces make two, one makes it once.
func TestP172MakeInARow(t *testing.T) {
	for _, from := range []uint64{0, 1, 255, most} {
		for _, nonce := range []uint64{0, 1, 5, 1 << 32, most - 3} {
			w := sparse(map[uint64]holding{from: {nonce, 5000, ""}})
			onEach(t, fmt.Sprintf("from %d, nonce %d", from, nonce), w, func(b both) {
				for i := range uint64(3) {
					x := making(110, 1, "abc"[i:])
					x.From, x.Nonce = from, nonce+i
					want := api.Receipt{Gas: 106 - 2*i, Made: plainMade(from, nonce+i)}
					if r, e := b.tx(x, 1, 9); r != want || e != api.OK || want.Made != tx.Made(from, nonce+i) {
						t.Errorf("P17.2: %s, %d: %+v, %d, not %+v", b.what, i, r, e, want)
					}
					if _, e := b.tx(x, 1, 9); e != api.ErrTxNonce {
						t.Errorf("P17.2: %s, %d, again: %d", b.what, i, e)
					}
				}
				b.s.Set(from, nonce, 5000)
				b.p.set(from, nonce, whole(5000))
				x := making(110, 1, "abc")
				x.From, x.Nonce = from, nonce
				if r, e := b.tx(x, 1, 9); r != receipt(api.Taken, 106) || e != api.OK {
					t.Errorf("P17.2: %s, at the first one's address: %+v, %d", b.what, r, e)
				}
				b.commit()
			})
		}
	}
}

// The beneficiary is the one that is made: it is paid behind that, and keeps its nonce and its code.
func TestP172MakeForTheMade(t *testing.T) {
	made := plainMade(1, 0)
	onEach(t, "for the made one", sparse(nil), func(b both) {
		if r, e := b.tx(making(150, 7, "a"), 1, made); r != (api.Receipt{Gas: 102, Made: made}) || e != api.OK {
			t.Errorf("P17.2: %s: %+v, %d", b.what, r, e)
		}
		if a, _ := b.s.Get(made); a.Nonce != 1 || a.Balance != 211 || a.Code != digest.Of([]byte("a")) {
			t.Errorf("P17.2: %s: it has %+v", b.what, a)
		}
		b.commit()
	})
	// So also where that makes it somebody who is there, though it was not made.
	onEach(t, "for one that is not made", sparse(nil), func(b both) {
		if r, e := b.tx(making(150, 5000, "a"), 1, made); r != receipt(api.NoFunds, 102) || e != api.OK {
			t.Errorf("P17.2: %s: %+v, %d", b.what, r, e)
		}
		if a, _ := b.s.Get(made); a.Nonce != 0 || a.Balance != 204 {
			t.Errorf("P17.2: %s: it has %+v", b.what, a)
		}
		b.commit()
	})
}

// What was made can be called in the same block; a code that was not learned is none of the source's then.
func TestP172MakeAndCall(t *testing.T) {
	made := plainMade(1, 0)
	code := coded("push 7 push 0 input store push 7 load value add return")
	onEach(t, "made and called", sparse(nil), func(b both) {
		gas := uint64(100 + 2*len(code))
		if r, e := b.tx(making(gas, 5, code), 1, 9); r != (api.Receipt{Gas: gas, Made: made}) || e != api.OK {
			t.Fatalf("P17.2: %s: %+v, %d", b.what, r, e)
		}
		for i := range uint64(3) {
			x := api.Tx{From: 1, Nonce: 1 + i, Gas: 150, Price: 1, To: made, Value: 2, Input: []uint64{100 + i}}
			if r, e := b.tx(x, 1, 9); r != (api.Receipt{Gas: 140, Result: 102 + i}) || e != api.OK {
				t.Errorf("P17.2: %s: %+v, %d", b.what, r, e)
			}
			if n, _ := b.s.Slot(made, 7); n != 100+i {
				t.Errorf("P17.2: %s: the slot is %d", b.what, n)
			}
		}
		b.commit()
	})
}

// The changes one by one, behind the sender's own: the value, of the sender first, the code, the nonce; then what goes back.
func TestP172TheOrderOfAMaking(t *testing.T) {
	made := plainMade(1, 0)
	code, empty := digest.Of([]byte("a")), node.EmptyCode()
	for kind, s := range overEach(sparse(nil)) {
		if r, e := s.tx(making(150, 7, "a"), 1, 9); r != (api.Receipt{Gas: 102, Made: made}) || e != api.OK || s.Mark() != 7 {
			t.Fatalf("P17.2: over %s: %+v, %d; %d changes stand", kind, r, e, s.Mark())
		}
		for _, k := range []struct {
			mark           int
			one            uint64
			nonce, balance uint64
			code           api.Digest
		}{
			{6, 789, 1, 7, code}, {5, 693, 1, 7, code}, {4, 693, 0, 7, code}, {3, 693, 0, 7, empty}, {2, 693, 0, 0, empty}, {1, 700, 0, 0, empty}, {0, 1000, 0, 0, empty},
		} {
			s.Back(k.mark)
			one, _ := s.Get(1)
			a, _ := s.Get(made)
			if one.Balance != k.one || a != (api.Account{Nonce: k.nonce, Balance: k.balance, Code: k.code, Storage: node.EmptyRoot()}) {
				t.Errorf("P17.2: over %s: behind %d changes: %+v, %+v", kind, k.mark, one, a)
			}
		}
	}
}

// Two that make the same code.
func TestP172TheSameCodeTwice(t *testing.T) {
	onEach(t, "the same code", sparse(nil), func(b both) {
		for i := range uint64(2) {
			x := making(110, 0, "same")
			x.Nonce = i
			b.tx(x, 1, 9)
			if code, e := b.s.Code(plainMade(1, i)); string(code) != "same" || e != api.OK {
				t.Errorf("P17.2: %s: the code is %q, %d", b.what, code, e)
			}
		}
		if l := b.s.Codes(); !slices.EqualFunc(l, []string{"same"}, func(b []byte, s string) bool { return string(b) == s }) {
			t.Errorf("P17.2: %s: the codes are %q", b.what, l)
		}
	})
}
