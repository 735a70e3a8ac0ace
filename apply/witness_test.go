package apply_test

import (
	"fmt"
	"slices"
	"testing"

	"pergola/api"
	"pergola/apply"
	"pergola/partial"
	"pergola/recorder"
	"pergola/state"
)

// wide has more accounts and slots than a transaction asks for, so that there are nodes that it does not touch.
func wide() world {
	w := sparse(map[uint64]holding{
		2: {1, 10, coded("push 7 load push 8 push 5 store " + calling(3, 5, 3, 100) + "return")},
		3: {1, 0, coded("push 7 load push 7 value store return")},
		4: {1, 0, coded("push 7 push 1 store push 3 balance revert")},
		5: {1, 0, coded("push 8 push 1 store push 3 load pop pop")},
	})
	for n := range uint64(16) {
		w.accounts[100+n*n*12345] = holding{n, 1 << n, ""}
		for address := range uint64(4) {
			w.slots[place{address + 2, 7 + n*n*54321}] = 1<<63 + address<<32 + n
			w.slots[place{address + 2, n}] = 1<<62 + address<<32 + n
		}
	}
	return w
}

// asking are transactions of which each asks for what others do not.
func asking() map[string]api.Tx {
	return map[string]api.Tx{
		"a value":                {From: 1, Gas: 200, Price: 2, To: 100, Value: 7},
		"a value to a new one":   {From: 1, Gas: 200, Price: 2, To: 99, Value: 7},
		"no value":               {From: 1, Gas: 200, Price: 2, To: 12445},
		"no funds":               {From: 1, Gas: 200, Price: 2, To: 12445, Value: 601},
		"a code":                 {From: 1, Gas: 400, Price: 2, To: 2, Value: 7},
		"a code that reverts":    {From: 1, Gas: 300, Price: 2, To: 4, Value: 7},
		"a code that fails":      {From: 1, Gas: 300, Price: 2, To: 5, Value: 7},
		"no gas for a code":      {From: 1, Gas: 110, Price: 2, To: 3, Value: 7},
		"a making":               {From: 1, Gas: 200, Price: 2, Value: 7, Make: true, Code: []byte("a")},
		"a making, no funds":     {From: 1, Gas: 200, Price: 2, Value: 700, Make: true, Code: []byte("a")},
		"no price":               {From: 1, Gas: 200, To: 100, Value: 7},
		"somebody that is not":   {From: 98, Gas: 200, To: 100},
		"a wrong nonce":          {From: 1, Nonce: 1, Gas: 200, Price: 2, To: 100},
		"no funds for its gas":   {From: 1, Gas: 200, Price: 20, To: 100},
		"a nonce of another":     {From: 100 + 12345, Nonce: 1, Gas: 200, To: 2},
		"for its own, by chance": {From: 1, Gas: 200, Price: 2, To: 9},
	}
}

// What a recorder notes is enough for a state that knows nothing else; and without any of it the answer is ErrWitness.
func TestErrWitnessWhereAnythingIsMissing(t *testing.T) {
	for what, x := range asking() {
		f := fullOf(wide())
		r := &recording{f: f}
		want, wantE := apply.Tx(state.New[*recorder.Recorder](r), x, 77, 9)
		if wantE == api.ErrWitness {
			t.Fatalf("%s: %d", what, wantE)
		}
		root, notes := f.Accounts().Root(), r.notes()
		onEach(t, what, wide(), func(b both) { b.tx(x, 77, 9) })
		if got, e := apply.Tx(state.New[*partial.Partial](newTold(root, notes, r.codes)), x, 77, 9); got != want || e != wantE {
			t.Errorf("P17.2: %s, over what it touches: %+v, %d, not %+v, %d", what, got, e, want, wantE)
		}
		for i := range notes {
			without := slices.Delete(slices.Clone(notes), i, i+1)
			wanting(t, fmt.Sprintf("%s, without the node %d", what, i), newTold(root, without, r.codes), x)
		}
		for i := range r.codes {
			without := slices.Delete(slices.Clone(r.codes), i, i+1)
			wanting(t, fmt.Sprintf("%s, without the code %d", what, i), newTold(root, notes, without), x)
		}
		if len(notes) == 0 {
			t.Errorf("%s: nothing was touched", what)
		}
	}
}

// wanting asks that a Tx over such a source is ErrWitness, without a receipt, and that the state still ends its calls.
func wanting(t *testing.T, what string, from told, x api.Tx) {
	t.Helper()
	s := state.New[*partial.Partial](from)
	if r, e := apply.Tx(s, x, 77, 9); r != (api.Receipt{}) || e != api.ErrWitness {
		t.Errorf("P17.2: %s: %+v, %d, not ErrWitness", what, r, e)
	}
	for address := range uint64(5) {
		s.Get(address)
		s.Slot(address, 7)
		apply.Check(s, api.Tx{From: address, Gas: 100})
		apply.Tx(s, api.Tx{From: address, Gas: 100}, 1, address+1)
		apply.Tx(s, x, 77, 9)
	}
	s.Back(0)
	s.Commit()
}

// With what Commit asks for besides, the root behind the transaction is the same one, too.
func TestTheRootBehindWhatWasTold(t *testing.T) {
	for what, x := range asking() {
		f := fullOf(wide())
		r := &recording{f: f}
		s := state.New[*recorder.Recorder](r)
		want, wantE := apply.Tx(s, x, 77, 9)
		root, e := s.Commit()
		if e != api.OK {
			t.Fatalf("%s: Commit = %d", what, e)
		}
		known := state.New[*partial.Partial](newTold(f.Accounts().Root(), r.notes(), r.codes))
		if got, e := apply.Tx(known, x, 77, 9); got != want || e != wantE {
			t.Errorf("P17.2: %s: %+v, %d, not %+v, %d", what, got, e, want, wantE)
		}
		if got, e := known.Commit(); got != root || e != api.OK || known.Touched() != s.Touched() {
			t.Errorf("P17.2: %s: Commit = %x, %d, not %x", what, got, e, root)
		}
	}
}

// Whatever error the state answers, wherever: it is the call's answer, there is no receipt, and nothing stands of what was changed.
func TestP172TheStateRefuses(t *testing.T) {
	for what, x := range asking() {
		for _, beneficiary := range []uint64{9, 1, 2, 100} {
			o := ownOf(wide())
			apply.Tx(state.New[*tree](o), x, 77, beneficiary)
			for _, ask := range o.calls() {
				for _, e := range someErrors() {
					refusedAt(t, what, x, beneficiary, ask, e)
				}
			}
		}
	}
}

func refusedAt(t *testing.T, what string, x api.Tx, beneficiary uint64, ask string, e api.Errno) {
	t.Helper()
	what = fmt.Sprintf("%s, beneficiary %d, where %q is refused by %d", what, beneficiary, ask, e)
	o := ownOf(wide())
	s := state.New[*tree](o)
	s.SetSlot(50, 1, 11)
	s.Set(51, 2, 22)
	p := newPlain(wide())
	p.set(50, 0, whole(0))
	p.now.slots[place{50, 1}], p.looked[place{50, 1}] = 11, true
	p.set(51, 2, whole(22))
	o.refuse[ask], p.refuse[ask] = e, e
	if r, got := apply.Tx(s, x, 77, beneficiary); r != (api.Receipt{}) || got != e {
		t.Fatalf("P17.2: %s: %+v, %d", what, r, got)
	}
	if r, got := p.tx(x, 77, beneficiary); r != (api.Receipt{}) || got != e {
		t.Fatalf("%s: the plain machine has %+v, %d", what, r, got)
	}
	if e == api.ErrWitness {
		return
	}
	if s.Mark() != 2 || len(s.Codes()) != 0 {
		t.Fatalf("R2: %s: %d changes stand, and the codes %x", what, s.Mark(), s.Codes())
	}
	// Once it is not refused any more all is as it was.
	delete(o.refuse, ask)
	p.refuse = map[string]api.Errno{}
	b := both{t, on[*tree]{s}, p, what}
	b.same()
	b.tx(x, 77, beneficiary)
}

// A value in the tries that is no account's, or no slot's, is ErrWitness too.
func TestErrWitnessOfWrongValues(t *testing.T) {
	for _, k := range []struct {
		t       api.Tx
		account byte
		slot    byte
	}{
		{paying(200, 7), 1, 0}, {paying(200, 7), 2, 0}, {paying(200, 7), 9, 0}, {paying(400, 7), 3, 0}, {paying(200, 7), 2, 7}, {paying(400, 7), 3, 7},
	} {
		o := ownOf(wide())
		if k.slot == 0 {
			o.accounts.Put(key(k.account), []byte{0x80})
		} else {
			o.storage(uint64(k.account)).Put(key(k.slot), []byte{0, 1})
		}
		if r, e := apply.Tx(state.New[*tree](o), k.t, 1, 9); r != (api.Receipt{}) || e != api.ErrWitness {
			t.Errorf("P17.2: a wrong value at %d, %d: %+v, %d", k.account, k.slot, r, e)
		}
	}
	o := ownOf(wide())
	o.codes = nil
	if r, e := apply.Tx(state.New[*tree](o), paying(200, 7), 1, 9); r != (api.Receipt{}) || e != api.ErrWitness {
		t.Errorf("P17.2: no codes: %+v, %d", r, e)
	}
}

func key(n byte) []byte { return []byte{0, 0, 0, 0, 0, 0, 0, n} }
