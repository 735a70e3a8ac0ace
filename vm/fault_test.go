package vm_test

import (
	"bytes"
	"fmt"
	"math"
	"testing"

	"pergola/api"
)

func TestP152GasAndDepth(t *testing.T) {
	w := worldOf("push 1 return")
	for _, k := range []struct {
		gas   uint64
		depth int
		want  api.Outcome
		e     api.Errno
	}{
		{api.MaxGas - 1, 1, done(api.MaxGas-2, 1), api.OK},
		{api.MaxGas, 1, done(api.MaxGas-1, 1), api.OK},
		{api.MaxGas + 1, 1, api.Outcome{}, api.ErrArg},
		{1 << 63, 1, api.Outcome{}, api.ErrArg},
		{most, 1, api.Outcome{}, api.ErrArg},
		{api.MaxGas + 1, api.MaxDepth + 1, api.Outcome{}, api.ErrArg},
		{0, 1, fault(api.NoGas), api.OK},
		{1, 1, done(0, 1), api.OK},
		{100, api.MaxDepth - 1, done(99, 1), api.OK},
		{100, api.MaxDepth, done(99, 1), api.OK},
		{100, api.MaxDepth + 1, fault(api.TooDeep), api.OK},
		{0, api.MaxDepth + 1, fault(api.TooDeep), api.OK},
		{api.MaxGas, api.MaxDepth + 1, fault(api.TooDeep), api.OK},
		{100, math.MaxInt, fault(api.TooDeep), api.OK},
		{100, 0, done(99, 1), api.OK},
		{100, -1, done(99, 1), api.OK},
		{100, math.MinInt, done(99, 1), api.OK},
	} {
		for kind, s := range overEach(w) {
			f := first(k.gas)
			f.Depth = k.depth
			if o, e := s.run(f); o != k.want || e != k.e {
				t.Errorf("P15.2: over %s: gas %d, depth %d: %+v, %d, not %+v, %d", kind, k.gas, k.depth, o, e, k.want, k.e)
			}
			// Nobody is asked for, where it is refused or too deep.
			touched := 1
			if k.e != api.OK || k.want.Status == api.TooDeep {
				touched = 0
			}
			if s.Touched() != touched || s.Mark() != 0 {
				t.Errorf("P15.2: over %s: gas %d, depth %d: touched %d", kind, k.gas, k.depth, s.Touched())
			}
		}
	}
}

func TestP152CodesThatAreNotThere(t *testing.T) {
	for _, self := range []uint64{2, 99, 0, most} {
		for _, gas := range []uint64{0, 1, 100, api.MaxGas} {
			f := first(gas)
			f.Self = self
			p := runs(t, "no code", worldOf("push 1 return", ""), f, done(gas, 0))
			if p.touched() != 1 {
				t.Errorf("P15.2: a call of no code has touched %d", p.touched())
			}
		}
	}
}

// Behind the code's end a call is Done, also where a jump leads there.
func TestP152TheCodesEnd(t *testing.T) {
	ends(t, "push 5", done(99, 0))
	ends(t, "push 5 push 6 add", done(97, 0))
	ends(t, "mark", done(99, 0))
	ends(t, "push 1 push 5 jumpif mark", done(94, 0))
	runs(t, "no gas is wanted", worldOf("stop"), first(0), done(0, 0))
	runs(t, "no gas is wanted", worldOf("push 1 push 2"), first(2), done(0, 0))
}

// A code that ends in the middle of an operation.
func TestP152CutOffCodes(t *testing.T) {
	for op, r := range plainTable {
		for own := range r.behind + 2 {
			code := append([]byte{0x42, 0x20, 5, 0x20, 6, op}, bytes.Repeat([]byte{0}, own)...)
			w := worldOf("")
			w.accounts[1] = holding{code: string(code)}
			p := newPlain(w)
			o, _ := p.run(first(100))
			if own < r.behind && o != fault(api.BadOp) {
				t.Fatalf("the plain machine has %+v of %x", o, code)
			}
			runs(t, fmt.Sprintf("%x", code), w, first(100), o)
		}
	}
	// It is not asked for ahead of the step that comes there.
	ends(t, "push 5 return byte 39", done(99, 5))
	ends(t, "push 4 jump byte 39 mark", done(95, 0))
}

func TestP152BytesThatAreNoOperation(t *testing.T) {
	for op := range 256 {
		if _, is := plainTable[byte(op)]; is {
			continue
		}
		ends(t, fmt.Sprintf("byte %d", op), fault(api.BadOp))
		ends(t, fmt.Sprintf("push 7 push 9 store byte %d stop", op), fault(api.BadOp))
		ends(t, fmt.Sprintf("stop byte %d", op), done(100, 0))
	}
}

// Of two faults in one step the one that comes first.
func TestP152TwoFaultsInOneStep(t *testing.T) {
	full := times(32, "push 0")
	for _, k := range []struct {
		what, text string
		gas        uint64
		want       int
	}{
		{"no operation, no gas", "byte 255", 0, api.BadOp},
		{"cut off, no gas", "byte 32", 0, api.BadOp},
		{"cut off, a full stack", full + "byte 32", 100, api.BadOp},
		{"cut off, a full stack, no gas", full + "byte 39 byte 0", 32, api.BadOp},
		{"cut off, an empty stack", "byte 49", 100, api.BadOp},
		{"cut off, an empty stack, no gas", "byte 50", 0, api.BadOp},
		{"no gas, an empty stack", "pop", 0, api.NoGas},
		{"no gas, one word too few", "push 0 add", 1, api.NoGas},
		{"no gas, words too few to be doubled", "dup 0", 0, api.NoGas},
		{"no gas, words too few to change places", "push 1 swap 0", 1, api.NoGas},
		{"no gas, a full stack", full + "push 0", 32, api.NoGas},
		{"no gas, a full stack that is doubled", full + "dup 0", 32, api.NoGas},
		{"too few words, a full stack", full + "dup 32", 100, api.Underflow},
		{"too few words, a full stack", full + "dup 255", 100, api.Underflow},
		{"a full stack", full + "dup 31", 100, api.Overflow},
		{"no gas, a bad place", "push 99 jump", 3, api.NoGas},
		{"too few words, a bad place", "push 99 jumpif", 100, api.Underflow},
		{"a bad place behind the end", "push 99 jump byte 255", 4, api.BadJump},
		{"no gas to store, too few words", "push 1 store", 20, api.NoGas},
		{"no gas to call, too few words", "call", 39, api.NoGas},
		{"too few words to call", "push 1 push 1 push 1 call", 100, api.Underflow},
	} {
		runs(t, k.what+": "+short(k.text), worldOf(k.text), first(k.gas), fault(k.want))
	}
}

// Gas that is just enough, and one too little, for each operation.
func TestP152GasThatIsJustEnough(t *testing.T) {
	for op, r := range plainTable {
		words := max(r.takes, 2)
		// The words are places of marks, addresses, slots, values, gas: of each kind one that may be.
		text := "mark " + times(words, "push 0") + statementOf(op)
		if r.word == "jump" {
			text = fmt.Sprintf("push %d jump mark", 3)
			words = 0
		}
		cost := uint64(1+words) + r.gas
		after := fault(api.Done)
		switch r.word {
		case "revert":
			after = reverted(0, 0)
		case "jump":
			// Its mark costs one, as the mark ahead of the others does; its push costs one more.
			cost++
		case "gas":
			text += " return"
		}
		runs(t, "just enough: "+text, worldOf(text), first(cost), after)
		runs(t, "one more: "+text, worldOf(text), first(cost+1), moreOf(after, text))
		if r.gas > 0 {
			runs(t, "one too little: "+text, worldOf(text), first(cost-1), fault(api.NoGas))
			runs(t, "nothing left: "+text, worldOf(text), first(cost-r.gas), fault(api.NoGas))
		}
		for gas := range cost + 3 {
			o, _ := newPlain(worldOf(text)).run(first(gas))
			runs(t, fmt.Sprintf("gas %d: %s", gas, text), worldOf(text), first(gas), o)
		}
	}
}

// moreOf is an outcome with one gas more.
func moreOf(o api.Outcome, text string) api.Outcome {
	o.Gas++
	if text == "mark push 0 push 0 gas return" {
		o.Result++
	}
	return o
}
