package vm_test

import (
	"fmt"
	"slices"
	"testing"

	"pergola/api"
	"pergola/state"
	"pergola/vm"
)

// calling is the text of a call: its own gas is 44, with those of its four words.
func calling(to, value, input, gas uint64) string {
	return fmt.Sprintf("push %d push %d push %d push %d call ", to, value, input, gas)
}

// paid asks what the first addresses have.
func paid(t *testing.T, what string, p *plain, balances ...uint64) {
	t.Helper()
	for i, want := range balances {
		if got := p.now.accounts[uint64(i+1)].balance; got != want {
			t.Errorf("P15.2: %s: then %d has %d, not %d", what, i+1, got, want)
		}
	}
}

// What a call gives, what it leaves, who has what then: by how it ends.
func TestP152CallByItsEnd(t *testing.T) {
	for _, k := range []struct {
		what, one, two string
		want           api.Outcome
		one2, two2     uint64
	}{
		{"done at its end", calling(2, 5, 3, 100) + "return", "", done(456, 1), 995, 1005},
		{"done by stop", calling(2, 5, 3, 100) + "return", "push 1 stop", done(455, 1), 995, 1005},
		{"done by return", calling(2, 5, 3, 100) + "return", "push 9 return", done(455, 1), 995, 1005},
		{"its result", calling(2, 5, 3, 100) + "result return", "push 9 return", done(454, 9), 995, 1005},
		{"no result", calling(2, 5, 3, 100) + "result return", "push 9", done(454, 0), 995, 1005},
		{"reverted", calling(2, 5, 3, 100) + "return", "push 9 revert", done(455, 0), 1000, 1000},
		{"reverted: its result", calling(2, 5, 3, 100) + "result return", "push 9 revert", done(454, 9), 1000, 1000},
		{"reverted: what it has stored", calling(2, 5, 3, 100) + "result return", "push 7 push 8 store push 9 revert", done(432, 9), 1000, 1000},
		{"no gas", calling(2, 5, 3, 100) + "return", "mark push 0 jump", fault(api.NoGas), 1000, 1000},
		{"overflow", calling(2, 5, 3, 100) + "return", times(33, "push 1"), fault(api.Overflow), 1000, 1000},
		{"underflow", calling(2, 5, 3, 100) + "return", "pop", fault(api.Underflow), 1000, 1000},
		{"a bad operation", calling(2, 5, 3, 100) + "return", "byte 255", fault(api.BadOp), 1000, 1000},
		{"a bad jump", calling(2, 5, 3, 100) + "return", "push 7 jump", fault(api.BadJump), 1000, 1000},
		{"too deep", calling(2, 0, 3, 500) + "return", calling(2, 0, 3, 500), fault(api.TooDeep), 1000, 1000},
		{"can't be paid", calling(2, 1001, 3, 100) + "return", "push 9 return", done(456, 0), 1000, 1000},
		{"can't be paid: its result", calling(2, 1001, 3, 100) + "result return", "push 9 return", done(455, 0), 1000, 1000},
		{"all that there is", calling(2, 1000, 3, 100) + "return", "push 9 return", done(455, 1), 0, 2000},
	} {
		p := runs(t, k.what, worldOf(k.one, k.two), first(500), k.want)
		paid(t, k.what, p, k.one2, k.two2)
	}
}

// The call's frame: Self, Caller, Value, Input, Gas, Number; each told by the code that is called.
func TestP152TheFrameOfACall(t *testing.T) {
	for _, k := range []struct {
		text string
		want uint64
	}{
		{"self", 2}, {"caller", 1}, {"value", 5}, {"number", 77}, {"gas", 99}, {"result", 0}, {"push 0 input", 3}, {"push 1 input", 0}, {"push 2 input", 0}, {"push 18446744073709551615 input", 0},
		{"push 1 balance", 995}, {"push 2 balance", 1005},
		// Its stack is its own, and empty.
		{"push 4", 4},
	} {
		two := k.text + " return"
		left, _ := newPlain(worldOf("", two)).run(api.Frame{Self: 2, Gas: 100, Depth: 1})
		runs(t, two, worldOf(calling(2, 5, 3, 100)+"result return", two), first(500), done(500-44-(100-left.Gas)-1, k.want))
	}
	runs(t, "an empty stack", worldOf("push 1 push 1 "+calling(2, 5, 3, 100), "pop"), first(500), fault(api.Underflow))
	runs(t, "words stay", worldOf("push 6 "+calling(2, 5, 3, 100)+"pop return", "push 1 push 2 push 3"), first(500), done(500-1-44-3-1, 6))
	for _, input := range edges() {
		runs(t, "an input", worldOf(calling(2, 0, input, 100)+"result return", "push 0 input return"), first(500), done(453, input))
	}
	for _, value := range []uint64{0, 1, 999, 1000} {
		runs(t, "a value", worldOf(calling(2, value, 1, 100)+"result return", "value return"), first(500), done(454, value))
	}
}

// How much gas goes with a call, and what is left behind it.
func TestP152TheGasOfACall(t *testing.T) {
	for _, k := range []struct {
		gas, asked uint64
		with, left uint64
	}{
		{500, 0, 0, 456}, {500, 1, 1, 455}, {500, 100, 100, 356}, {500, 455, 455, 1}, {500, 456, 456, 0}, {500, 457, 456, 0}, {500, 20000, 456, 0}, {500, 1 << 63, 456, 0}, {500, most, 456, 0},
		{44, 0, 0, 0}, {44, 1, 0, 0}, {44, most, 0, 0}, {45, most, 1, 0}, {api.MaxGas, most, api.MaxGas - 44, 0}, {api.MaxGas, api.MaxGas, api.MaxGas - 44, 0},
	} {
		what := fmt.Sprintf("%d of %d", k.asked, k.gas)
		one := calling(2, 0, 0, k.asked)
		runs(t, what+", nothing is used", worldOf(one, ""), first(k.gas), done(k.gas-44, 0))
		if k.with > 0 {
			// The code that is called tells it.
			runs(t, what+", told", worldOf(one+"result push 7 swap 0 store", "gas return"), first(k.gas), endOf(k.gas, one+"result push 7 swap 0 store", "gas return"))
			if k.left > 1 {
				runs(t, what+", told", worldOf(one+"result return", "gas return"), first(k.gas), done(k.left+k.with-2, k.with-1))
			}
		} else {
			runs(t, what+", told", worldOf(one+"result return", "gas return"), first(k.gas), fault(api.NoGas))
		}
		// Gas behind the call tells what came back.
		if k.gas > 44 {
			runs(t, what+", behind it", worldOf(one+"gas return", ""), first(k.gas), done(k.gas-45, k.gas-45))
			runs(t, what+", behind it, unpaid", worldOf(calling(2, 1001, 0, k.asked)+"gas return", ""), first(k.gas), done(k.gas-45, k.gas-45))
		}
	}
	for gas := range uint64(60) {
		for _, asked := range []uint64{0, 1, 5, 15, most} {
			one, two := calling(2, 1, 0, asked)+"gas return", "push 1 push 2 add pop mark push 9 return"
			runs(t, "few gas", worldOf(one, two), first(gas), endOf(gas, one, two))
		}
	}
}

// endOf is what the plain machine says.
func endOf(gas uint64, texts ...string) api.Outcome {
	o, _ := newPlain(worldOf(texts...)).run(first(gas))
	return o
}

// What the last result is behind each call.
func TestP152TheLastResult(t *testing.T) {
	good, bad, none, unpaid := calling(2, 0, 1, 50), calling(3, 0, 1, 50), calling(99, 0, 1, 50), calling(2, 5000, 1, 50)
	for _, k := range []struct {
		one  string
		want uint64
	}{
		{"", 0}, {good, 11}, {bad, 22}, {none, 0}, {unpaid, 0}, {good + bad, 22}, {bad + good, 11}, {good + none, 0}, {good + unpaid, 0}, {bad + unpaid, 0}, {bad + none, 0}, {unpaid + good, 11}, {good + "result push 1 store ", 11},
		// A call that is Done without a word has the result 0.
		{good + calling(4, 0, 1, 50), 0},
	} {
		w := worldOf(k.one+"result return", "push 11 return", "push 22 revert", "push 33 pop")
		o, _ := newPlain(w).run(first(1000))
		if o.Status != api.Done || o.Result != k.want {
			t.Fatalf("the plain machine has %+v of %s", o, k.one)
		}
		runs(t, k.one, w, first(1000), done(o.Gas, k.want))
	}
	// It is the call's own: a code that is called begins with 0, and leaves that of its caller as it was.
	w := worldOf(good+calling(3, 0, 0, 400)+"result return", "push 11 return", good+"result push 100 add "+calling(4, 0, 0, 100)+"pop return", "result push 44 add return")
	o, _ := newPlain(w).run(first(1000))
	runs(t, "results within", w, first(1000), o)
	if o.Result != 111 {
		t.Errorf("the plain machine has %+v", o)
	}
}

func TestP152CallsToOneself(t *testing.T) {
	// The code asks its input whether it is the first call; the second one goes to the mark, and stores.
	once := calling(1, 600, 1, 200) + "result push 1 add return "
	one := fmt.Sprintf("push 0 input push %d jumpif ", 6+len(coded(once))) + once + "mark push 7 value store push 8 caller store push 40 return"
	f := first(500)
	f.Input = nil
	p := runs(t, "to oneself", worldOf(one), f, endOfFrame(f, one))
	if o := endOfFrame(f, one); o.Status != api.Done || o.Result != 41 {
		t.Errorf("P15.2: to oneself: %+v", o)
	}
	if p.now.slots[place{1, 7}] != 600 || p.now.slots[place{1, 8}] != 1 || p.now.accounts[1].balance != 1000 {
		t.Errorf("P15.2: to oneself: %v, %v", p.now.slots, p.now.accounts)
	}
	// What one has not got can't be paid to oneself, either.
	runs(t, "to oneself, unpaid", worldOf(calling(1, 1001, 1, 200)+"return"), first(500), done(456, 0))
}

func endOfFrame(f api.Frame, texts ...string) api.Outcome {
	o, _ := newPlain(worldOf(texts...)).run(f)
	return o
}

// An address without a code is paid, and the call is Done.
func TestP152CallsToNoCode(t *testing.T) {
	for _, to := range []uint64{2, 99, 0, most} {
		for _, gas := range []uint64{0, 1, 100, most} {
			p := runs(t, "no code", worldOf(calling(to, 10, 3, gas)+"return", ""), first(500), done(456, 1))
			if p.now.accounts[1].balance != 990 || p.now.accounts[to].balance != 10+worldOf("", "").accounts[to].balance {
				t.Errorf("P15.2: a call to %d: %v", to, p.now.accounts)
			}
		}
	}
}

// At a depth of MaxDepth each call is too deep, ahead of asking for anybody.
func TestP152CallsThatAreTooDeep(t *testing.T) {
	for _, value := range []uint64{0, 5, 1001} {
		w := worldOf("push 7 push 8 store "+calling(2, value, 3, 10)+"return", "stop")
		for depth := -3; depth <= api.MaxDepth+2; depth++ {
			f := first(500)
			f.Depth = depth
			o, _ := newPlain(w).run(f)
			if is := o.Status == api.TooDeep; is != (depth >= api.MaxDepth) {
				t.Fatalf("the plain machine has %+v at the depth %d", o, depth)
			}
			p := runs(t, fmt.Sprintf("at the depth %d", depth), w, f, o)
			if depth == api.MaxDepth && p.touched() != 2 {
				t.Errorf("P15.2: a call that is too deep has touched %v", p.asked)
			}
		}
	}
}

// Calls within calls, each with a value, as deep as may be, and one more.
func TestP152CallsWithinCalls(t *testing.T) {
	next := func(to uint64) string {
		return "push 7 number store " + calling(to, 10*to, to, 9999) + "result push 1 add return"
	}
	texts := []string{next(2), next(3), next(4), "push 7 value store push 40 return", "push 5 return"}
	p := runs(t, "four calls", worldOf(texts...), first(1000), endOf(1000, texts...))
	if o := endOf(1000, texts...); o.Status != api.Done || o.Result != 43 {
		t.Errorf("P15.2: four calls: %+v", o)
	}
	paid(t, "four calls", p, 980, 990, 990, 1040, 1000)
	texts[3] = next(5)
	p = runs(t, "five calls", worldOf(texts...), first(1000), fault(api.TooDeep))
	paid(t, "five calls", p, 1000, 1000, 1000, 1000, 1000)
	if len(p.now.slots) != 0 || p.changes != 0 {
		t.Error("P15.3: five calls:", p.now.slots)
	}
	// The third one is reverted: what the fourth one did, which was Done, is taken back with it; what the second one did is not.
	texts[3] = "push 7 value store push 40 return"
	texts[2] = "push 7 number store " + calling(4, 40, 4, 9999) + "result push 1 add revert"
	p = runs(t, "one in between is reverted", worldOf(texts...), first(1000), endOf(1000, texts...))
	paid(t, "one in between is reverted", p, 980, 1020, 1000, 1000, 1000)
	if s := p.now.slots; s[place{1, 7}] != 77 || s[place{2, 7}] != 77 || s[place{3, 7}] != 0 || s[place{4, 7}] != 0 {
		t.Error("P15.2: one in between is reverted:", s)
	}
	if o := endOf(1000, texts...); o.Status != api.Done || o.Result != 43 {
		t.Errorf("P15.2: one in between is reverted: %+v", o)
	}
	// The fourth one has a fault: all of it ends so.
	for status, text := range faults() {
		texts[3] = "push 7 value store " + text
		p = runs(t, text, worldOf(texts...), first(1000), fault(status))
		paid(t, text, p, 1000, 1000, 1000, 1000, 1000)
	}
}

// faults are codes by how they end, also behind up to nine other bytes: of so many marks one is where the jump leads.
func faults() map[int]string {
	return map[int]string{api.NoGas: times(10, "mark") + "push 9 jump", api.Overflow: times(33, "push 1"), api.Underflow: "push 1 add", api.BadOp: "byte 200", api.BadJump: "push 250 jump"}
}

// What a Revert takes back: all since ahead of the Pay, and nothing that was done ahead of that.
func TestP152WhatARevertTakesBack(t *testing.T) {
	one := "push 1 push 11 store " + calling(3, 50, 0, 100) + calling(2, 100, 0, 200) + "push 2 push 22 store return"
	two := "push 1 push 33 store " + calling(3, 60, 0, 60) + "push 5 revert"
	p := runs(t, "a revert", worldOf(one, two, "push 9 value store"), first(1000), endOf(1000, one, two, "push 9 value store"))
	paid(t, "a revert", p, 950, 1000, 1050)
	if s := p.now.slots; s[place{1, 1}] != 11 || s[place{1, 2}] != 22 || s[place{2, 1}] != 0 || s[place{3, 9}] != 50 {
		t.Error("P15.2: a revert:", s)
	}
	// Two Sets and a SetSlot of the first call, two SetSlots of the code's own.
	if p.changes != 5 {
		t.Errorf("P15.2: behind a revert %d changes stand", p.changes)
	}
	if o := endOf(1000, one, two, "push 9 value store"); o.Result != 0 || o.Status != api.Done {
		t.Errorf("P15.2: a revert: %+v", o)
	}
}

// Whom a call asks for, in what order, and whom it does not.
func TestP152WhomACallAsksFor(t *testing.T) {
	two := coded("push 7 load")
	for _, k := range []struct {
		what       string
		value, gas uint64
		want       []string
	}{
		{"a call", 5, 100, []string{"account 2", "code " + two, "storage 2", "slot 2 7"}},
		{"no value", 0, 100, []string{"account 2", "code " + two, "storage 2", "slot 2 7"}},
		{"unpaid", 1001, 100, nil},
		{"too little gas", 5, 10, []string{"account 2", "code " + two}},
	} {
		one := calling(2, k.value, 0, k.gas)
		o := ownOf(worldOf(one, "push 7 load"))
		s := state.New[*tree](o)
		o.calls()
		if _, e := vm.Run(s, first(500)); e != api.OK {
			t.Fatal(e)
		}
		want := append([]string{"account 1", "code " + coded(one)}, k.want...)
		if got := o.calls(); !slices.Equal(got, want) {
			t.Errorf("P15.2: %s asks for %q, not %q", k.what, got, want)
		}
	}
}

// A value that does not fit in at the one who is called can't be paid: the code is not asked for.
func TestP152CallsThatDoNotFit(t *testing.T) {
	for _, k := range []struct{ value, gives uint64 }{{0, 1}, {9, 1}, {10, 1}, {11, 0}, {1000, 0}, {1001, 0}} {
		w := worldOf(calling(2, k.value, 0, 100)+"return", "").with(2, most-10)
		p := runs(t, fmt.Sprintf("a value of %d", k.value), w, first(500), done(456, k.gives))
		paid(t, "a value", p, 1000-k.value*k.gives, most-10+k.value*k.gives)
	}
}

// A full stack has room for what a call gives: it takes four.
func TestP152ACallOnAFullStack(t *testing.T) {
	text := times(28, "push 6") + calling(2, 0, 0, 100) + "return"
	runs(t, "a full stack", worldOf(text, "push 1"), first(500), done(500-28-44-1, 1))
	text = times(28, "push 6") + calling(2, 0, 0, 100) + times(3, "push 1") + "return"
	runs(t, "a full stack", worldOf(text, "push 1"), first(500), done(500-28-44-1-3, 1))
	text = times(28, "push 6") + calling(2, 0, 0, 100) + times(4, "push 1") + "return"
	runs(t, "a full stack", worldOf(text, "push 1"), first(500), fault(api.Overflow))
}
