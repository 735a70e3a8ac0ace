package vm_test

import (
	"bytes"
	"fmt"
	"slices"
	"testing"

	"pergola/api"
	"pergola/partial"
	"pergola/recorder"
	"pergola/state"
	"pergola/vm"
)

// wide has more accounts and slots than a code asks for, so that there are nodes that it does not touch.
func wide(texts ...string) world {
	w := worldOf(texts...)
	for n := range uint64(40) {
		address := 100 + n*n*12345
		w.accounts[address] = holding{n, 1 << n, ""}
		for address := range uint64(4) {
			w.slots[place{address + 1, 7 + n*n*54321}] = 1<<63 + n
		}
		for address := range uint64(3) {
			w.slots[place{address + 1, n}] = 1<<62 + n
		}
	}
	return w
}

// asking are codes of which each asks for what others do not.
func asking() map[string][]string {
	return map[string][]string{
		"nothing":             {"push 1 return"},
		"an account":          {"push 2 balance push 99 balance push 12445 balance add add return"},
		"a slot":              {"push 7 load push 8 load push 9999 load add add return"},
		"a slot that is set":  {"push 7 push 5 store push 7 load return"},
		"a call":              {calling(2, 5, 3, 100) + "return", "push 3 load push 4 load add return"},
		"calls within calls":  {calling(2, 5, 3, 800) + "return", calling(3, 0, 0, 500) + calling(4, 1, 0, 100) + "return", "push 3 load revert", "push 7 value store"},
		"a call of a new one": {calling(98, 5, 3, 100) + "return"},
		"an unpaid call":      {calling(2, 5000, 3, 100) + "return", "push 3 load"},
		"a fault":             {"push 7 push 5 store " + calling(2, 5, 3, 100), "push 3 load pop pop"},
	}
}

// What a recorder notes is enough for a state that knows nothing else; and without any of it the answer is ErrWitness.
func TestErrWitnessWhereAnythingIsMissing(t *testing.T) {
	for what, texts := range asking() {
		w := wide(texts...)
		f := fullOf(w)
		r := &recording{f: f}
		want, e := vm.Run(state.New[*recorder.Recorder](r), first(1000))
		if e != api.OK {
			t.Fatalf("%s: %d", what, e)
		}
		root, notes := f.Accounts().Root(), r.notes()
		p := newPlain(w)
		both{t, over[*partial.Partial](newTold(root, f.Texts(), r.codes)), p, what + ", all nodes"}.run(first(1000))
		if o, e := vm.Run(state.New[*partial.Partial](newTold(root, notes, r.codes)), first(1000)); o != want || e != api.OK {
			t.Errorf("P15.2: %s, over what it touches: %+v, %d, not %+v", what, o, e, want)
		}
		for i := range notes {
			without := slices.Delete(slices.Clone(notes), i, i+1)
			wanting(t, fmt.Sprintf("%s, without the node %d", what, i), newTold(root, without, r.codes))
		}
		for i := range r.codes {
			without := slices.Delete(slices.Clone(r.codes), i, i+1)
			wanting(t, fmt.Sprintf("%s, without the code %d", what, i), newTold(root, notes, without))
		}
		if len(notes) == 0 || len(r.codes) == 0 {
			t.Errorf("%s: nothing was touched", what)
		}
	}
}

// wanting asks that a Run over such a source is ErrWitness, with no outcome, and that the state still ends its calls.
func wanting(t *testing.T, what string, x told) {
	t.Helper()
	s := state.New[*partial.Partial](x)
	if o, e := vm.Run(s, first(1000)); o != (api.Outcome{}) || e != api.ErrWitness {
		t.Errorf("P15.2: %s: %+v, %d, not ErrWitness", what, o, e)
	}
	for address := range uint64(5) {
		s.Get(address)
		s.Slot(address, 7)
		s.Code(address)
		s.SetSlot(address, 8, 8)
		vm.Pay(s, address, address+1, 1)
		vm.Run(s, api.Frame{Self: address, Gas: 100, Depth: 1})
	}
	s.Back(0)
	s.Commit()
}

// A value in the tries that is no account's, or no slot's, is ErrWitness too.
func TestErrWitnessOfWrongValues(t *testing.T) {
	for what, texts := range asking() {
		for wrong := range 3 {
			o := ownOf(wide(texts...))
			switch wrong {
			case 0:
				o.accounts.Put(key(1), []byte{0x80})
			case 1:
				o.accounts.Put(key(2), []byte{0x80})
				o.storage(1).Put(key(7), []byte{0, 1})
			case 2:
				o.codes = nil
			}
			s := state.New[*tree](o)
			got, e := vm.Run(s, first(1000))
			is := wrong != 1 || slices.Contains([]string{"an account", "a slot", "a call", "calls within calls", "a fault"}, what)
			if (e == api.ErrWitness) != is || is && got != (api.Outcome{}) {
				t.Errorf("P15.2: %s, wrong in the way %d: %+v, %d", what, wrong, got, e)
			}
		}
	}
}

func key(n byte) []byte { return []byte{0, 0, 0, 0, 0, 0, 0, n} }

// Whatever error the state answers, wherever: it is the call's answer, there is no outcome, and nothing stands of what was changed.
func TestTheStateRefuses(t *testing.T) {
	for what, texts := range asking() {
		w := wide(texts...)
		o := ownOf(w)
		vm.Run(state.New[*tree](o), first(1000))
		asks := o.calls()
		if len(asks) < 2 {
			t.Fatalf("%s asks for %q", what, asks)
		}
		for _, ask := range asks {
			for _, e := range someErrors() {
				refusedAt(t, what, w, ask, e)
			}
		}
	}
}

func refusedAt(t *testing.T, what string, w world, ask string, e api.Errno) {
	t.Helper()
	o := ownOf(w)
	s := state.New[*tree](o)
	s.SetSlot(50, 1, 11)
	s.Set(51, 2, 22)
	o.refuse[ask] = e
	p := newPlain(w)
	p.refuse[ask] = e
	if got, gotE := vm.Run(s, first(1000)); got != (api.Outcome{}) || gotE != e {
		t.Fatalf("P15.2: %s, where %q is refused: %+v, %d, not %d", what, ask, got, gotE, e)
	}
	if got, gotE := p.run(first(1000)); got != (api.Outcome{}) || gotE != e {
		t.Fatalf("the plain machine has %+v, %d", got, gotE)
	}
	if e == api.ErrWitness {
		return
	}
	if s.Mark() != 2 {
		t.Errorf("R2: %s, where %q is refused: %d changes stand", what, ask, s.Mark())
	}
	// Once it is not refused any more all is as it was.
	delete(o.refuse, ask)
	p.refuse = map[string]api.Errno{}
	p.setSlot(50, 1, 11)
	p.put(51, 22)
	h := p.now.accounts[51]
	h.nonce = 2
	p.now.accounts[51] = h
	b := both{t, on[*tree]{s}, p, fmt.Sprintf("%s, where %q was refused by %d", what, ask, e)}
	b.same()
	b.run(first(1000))
}

// A code that is longer than those that a state takes is done as any other, if the source tells it.
func TestP152ACodeLongerThanAStateTakes(t *testing.T) {
	code := slices.Concat([]byte{0x21, 0x13, 0x88, 0x40}, bytes.Repeat([]byte{0xff}, 4996), []byte{0x42, 0x20, 5, 0x80})
	w := worldOf("")
	w.accounts[1] = holding{code: string(code)}
	runs(t, "a long code", w, first(100), done(94, 5))
	code[2]--
	w.accounts[1] = holding{code: string(code)}
	runs(t, "a long code", w, first(100), fault(api.BadJump))
}
