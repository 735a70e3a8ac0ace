package vm_test

import (
	"slices"
	"sync"
	"testing"

	"pergola/api"
	"pergola/recorder"
	"pergola/state"
	"pergola/vm"
)

// The input that is handed in stays as it is, and the room behind its end, which is not read.
func TestR5TheInputStaysAsItIs(t *testing.T) {
	all := []uint64{3, 4, 5, 1111, 2222}
	text := "push 0 input push 1 input add push 2 input add push 3 input add push 4 input add push 99 swap 0 " + calling(2, 0, 7, 100) + calling(1, 0, 7, 0) + "pop return"
	for _, text := range []string{text, "push 3 input return", "push 4 input return", "push 2 input return", "push 0 input revert"} {
		for kind, s := range overEach(worldOf(text, "push 0 input return")) {
			given := slices.Clone(all)
			f := first(1000)
			f.Input = given[:3]
			want, wantE := newPlain(worldOf(text, "push 0 input return")).run(f)
			if o, e := s.run(f); o != want || e != wantE {
				t.Errorf("R5: over %s: %+v, %d, not %+v", kind, o, e, want)
			}
			if !slices.Equal(given, all) {
				t.Errorf("R5: over %s: the input became %v", kind, given)
			}
		}
	}
}

// A nil input is one of no words.
func TestR4NoInput(t *testing.T) {
	for _, input := range [][]uint64{nil, {}} {
		f := first(100)
		f.Input = input
		runs(t, "no input", worldOf("push 0 input return"), f, done(98, 0))
	}
}

// Nothing is kept of an input: who writes over it behind a Run changes no later one.
func TestR5WritingOverTheInputIsNotSeen(t *testing.T) {
	s := state.Open(fullOf(worldOf("push 7 push 0 input store push 7 load return")))
	input := []uint64{5}
	for i := range uint64(3) {
		input[0] = i + 5
		if o, _ := vm.Run(s, api.Frame{Self: 1, Input: input, Gas: 100, Depth: 1}); o.Result != i+5 {
			t.Errorf("R5: %+v", o)
		}
		input[0] = 99
		if n, _ := s.Slot(1, 7); n != i+5 {
			t.Errorf("R5: the slot became %d", n)
		}
	}
}

// What Run answers hangs on the frame and the state alone: again on a like state it is the same.
func TestR6OneAnswer(t *testing.T) {
	for seed := range uint64(100) {
		d := &dice{seed + 900}
		w, f := anyWorld(d), anyFrame(d)
		first, firstE := over[*recorder.Recorder](&recording{f: fullOf(w)}).run(f)
		other := anyWorld(d)
		over[*tree](ownOf(other)).run(anyFrame(d))
		for kind, s := range overEach(w) {
			if o, e := s.run(f); o != first || e != firstE {
				t.Errorf("R6: seed %d, over %s: %+v, %d, not %+v, %d", seed, kind, o, e, first, firstE)
			}
		}
	}
}

// States that share nothing may be run on side by side.
func TestR6SideBySide(t *testing.T) {
	var g sync.WaitGroup
	for i := range 8 {
		g.Go(func() {
			d := &dice{uint64(i % 2)}
			w, f := anyWorld(d), anyFrame(d)
			want, wantE := newPlain(w).run(f)
			if o, e := vm.Run(state.Open(fullOf(w)), f); o != want || e != wantE {
				t.Errorf("R6: %+v, %d, not %+v, %d", o, e, want, wantE)
			}
		})
	}
	g.Wait()
}
