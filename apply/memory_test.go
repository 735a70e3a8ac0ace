package apply_test

import (
	"bytes"
	"slices"
	"sync"
	"testing"

	"pergola/api"
	"pergola/apply"
	"pergola/recorder"
	"pergola/state"
)

// A transaction stays as it is, and the room behind its lists' ends, which is not read: of Check, of Tx, where it is refused and where it ends in whatever way.
func TestR5TheTransactionStaysAsItIs(t *testing.T) {
	input := []uint64{3, 4, 5, 1111, 2222}
	code := []byte("\x01\x02\x03 and more")
	for _, text := range []string{"push 0 input push 3 input push 4 input add add return", "push 2 input revert", "byte 255", calling(1, 3, 4, 5) + calling(9, 0, 0, 0)} {
		w := callee(text)
		for _, x := range []api.Tx{
			{From: 1, Gas: 400, Price: 2, To: 2, Value: 7, Input: input[:3]},
			{From: 1, Gas: 400, Price: 2, To: 2, Value: 7000, Input: input[:3]},
			{From: 1, Gas: 400, Price: 20, To: 2, Input: input[:3]},
			{From: 1, Gas: 111, Price: 2, To: 2, Input: input[:3]},
			{From: 1, Gas: 400, Price: 2, Value: 7, Make: true, Code: code[:3]},
			{From: 1, Gas: 400, Price: 2, Value: 7000, Make: true, Code: code[:3]},
			{From: 1, Gas: 400, Price: 2, Nonce: 3, Make: true, Code: code[:3]},
			{From: 1, Gas: 400, Price: 2, Make: true, Input: input[:3], Code: code[:3]},
		} {
			onEach(t, text, w, func(b both) {
				b.check(x)
				b.tx(x, 77, 9)
				b.check(x)
				b.commit()
			})
		}
	}
	if !slices.Equal(input, []uint64{3, 4, 5, 1111, 2222}) || string(code) != "\x01\x02\x03 and more" {
		t.Errorf("R5: the lists became %v, %q", input, code)
	}
}

// Nothing is kept of a code: who writes over it behind a Tx changes none that was laid.
func TestR5WritingOverTheCodeIsNotSeen(t *testing.T) {
	for kind, s := range overEach(sparse(nil)) {
		code := append(make([]byte, 0, 100), "the first code"...)
		for i := range uint64(3) {
			code[0] = byte(i)
			x := api.Tx{From: 1, Nonce: i, Gas: 200, Make: true, Code: code}
			r, e := s.tx(x, 1, 9)
			if r.Status != api.Done || e != api.OK {
				t.Fatalf("R5: over %s: %+v, %d", kind, r, e)
			}
			code[0] = 99
			_ = append(code, "and something behind it"...)
			for k := range i + 1 {
				want := append([]byte{byte(k)}, "he first code"...)
				if got, e := s.Code(plainMade(1, k)); !bytes.Equal(got, want) || e != api.OK {
					t.Errorf("R5: over %s: the code %d became %q, %d", kind, k, got, e)
				}
				if l := s.Codes(); len(l) != int(i)+1 || !bytes.Equal(l[k], want) {
					t.Errorf("R5: over %s: the codes that were set became %q", kind, l)
				}
			}
		}
	}
}

// Nothing is kept of an input, either.
func TestR5WritingOverTheInputIsNotSeen(t *testing.T) {
	s := state.Open(fullOf(callee("push 7 push 0 input store push 7 load return")))
	input := []uint64{5}
	for i := range uint64(3) {
		input[0] = i + 5
		x := api.Tx{From: 1, Nonce: i, Gas: 200, To: 2, Input: input}
		if r, _ := apply.Tx(s, x, 1, 9); r.Result != i+5 {
			t.Errorf("R5: %+v", r)
		}
		input[0] = 99
		if n, _ := s.Slot(2, 7); n != i+5 {
			t.Errorf("R5: the slot became %d", n)
		}
	}
}

// A nil list is one of no things.
func TestR4NoInputAndNoCode(t *testing.T) {
	w := callee("push 0 input return")
	for _, input := range [][]uint64{nil, {}} {
		for _, code := range [][]byte{nil, {}} {
			ends(t, "no input", w, api.Tx{From: 1, Gas: 102, Price: 2, To: 2, Input: input, Code: code}, 9, receipt(api.Done, 102), balances{1: 796})
			ends(t, "no code", w, api.Tx{From: 1, Gas: 100, Price: 2, Value: 5, Make: true, Input: input, Code: code}, 9, api.Receipt{Gas: 100, Made: plainMade(1, 0)}, balances{1: 795, plainMade(1, 0): 5})
		}
	}
}

// What is answered hangs on the transaction and the state alone: again on a like state it is the same, whatever was done elsewhere.
func TestR6OneAnswer(t *testing.T) {
	for seed := range uint64(60) {
		d := &dice{seed + 900}
		w := anyWorld(d)
		x := anyTx(d, w)
		want, wantE := apply.Tx(state.New[*recorder.Recorder](&recording{f: fullOf(w)}), x, 7, 9)
		other := anyWorld(d)
		apply.Tx(state.New[*tree](ownOf(other)), anyTx(d, other), 8, 1)
		for kind, s := range overEach(w) {
			s.check(x)
			if r, e := s.tx(x, 7, 9); r != want || e != wantE {
				t.Errorf("R6: seed %d, over %s: %+v, %d, not %+v, %d", seed, kind, r, e, want, wantE)
			}
		}
	}
}

// States that share nothing may be used side by side.
func TestR6SideBySide(t *testing.T) {
	var g sync.WaitGroup
	for i := range 8 {
		g.Go(func() {
			d := &dice{uint64(i % 2)}
			w := anyWorld(d)
			x := anyTx(d, w)
			want, wantE := newPlain(w).tx(x, 7, 9)
			if r, e := apply.Tx(state.Open(fullOf(w)), x, 7, 9); r != want || e != wantE {
				t.Errorf("R6: %+v, %d, not %+v, %d", r, e, want, wantE)
			}
		})
	}
	g.Wait()
}
