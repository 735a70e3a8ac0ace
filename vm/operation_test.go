package vm_test

import (
	"fmt"
	"testing"

	"pergola/api"
	"pergola/opcode"
)

// The chapter's examples.
func TestP152Examples(t *testing.T) {
	for _, k := range []struct {
		text string
		want api.Outcome
	}{
		{"", done(100, 0)},
		{"stop", done(100, 0)},
		{"push 2 push 3 sub return", done(97, most)},
		{"push 7 push 9 store push 7 load return", done(67, 9)},
		{"push 7 push 9 store push 1 revert", reverted(77, 1)},
		{"mark push 0 jump", fault(api.NoGas)},
		{"pop", fault(api.Underflow)},
		{"push 3 jump", fault(api.BadJump)},
		{"dup 0", fault(api.Underflow)},
		{"byte 255", fault(api.BadOp)},
		{times(33, "push 1"), fault(api.Overflow)},
	} {
		ends(t, k.text, k.want)
	}
}

// Each operation that gives a word, by that word.
func TestP152WhatOperationsGive(t *testing.T) {
	for _, k := range []struct {
		text string
		want uint64
	}{
		{"push 2 push 3 add", 5}, {"push 3 push 2 sub", 1}, {"push 2 push 3 sub", most}, {"push 3 push 4 mul", 12},
		{"push 17 push 5 div", 3}, {"push 17 push 5 mod", 2}, {"push 5 push 17 div", 0}, {"push 5 push 17 mod", 5},
		{"push 2 push 3 less", 1}, {"push 3 push 2 less", 0}, {"push 3 push 3 less", 0}, {"push 3 push 3 equal", 1}, {"push 3 push 2 equal", 0}, {"push 2 push 3 equal", 0},
		{"push 0 not", 1}, {"push 1 not", 0}, {"push 2 not", 0}, {"push 18446744073709551615 not", 0}, {"push 5 push 6 pop", 5},
		{"push 5 push 6 push 7 dup 0", 7}, {"push 5 push 6 push 7 dup 1", 6}, {"push 5 push 6 push 7 dup 2", 5},
		{"push 5 push 6 push 7 swap 0", 6}, {"push 5 push 6 push 7 swap 1", 5}, {"push 5 push 6 push 7 swap 0 pop", 7}, {"push 5 push 6 push 7 swap 1 pop", 6}, {"push 5 push 6 push 7 swap 1 pop pop", 7},
		{"mark push 5 mark", 5}, {"self", 1}, {"caller", 9}, {"value", 8}, {"number", 77}, {"result", 0},
		{"push 0 input", 3}, {"push 1 input", 4}, {"push 2 input", most}, {"push 3 input", 0}, {"push 4 input", 0}, {"push 18446744073709551615 input", 0}, {"push 9223372036854775808 input", 0},
		{"push 1 balance", 1000}, {"push 2 balance", 1000}, {"push 99 balance", 0}, {"push 18446744073709551615 balance", 0},
		{"gas", 99}, {"push 5 pop gas", 97}, {"mark gas", 98}, {"gas gas", 98}, {"push 0 not gas", 97},
		{"push 4 load", 0}, {"push 4 push 5 store push 4 load", 5}, {"push 4 push 5 store push 5 load", 0}, {"push 4 push 5 store push 4 push 0 store push 4 load", 0},
	} {
		p := newPlain(worldOf(k.text+" return", ""))
		if o, _ := p.run(first(100)); o.Status != api.Done || o.Result != k.want {
			t.Fatalf("the plain machine has %+v of %s, not %d", o, k.text, k.want)
		}
		o, _ := p.run(first(100))
		ends(t, k.text+" return", done(o.Gas, k.want))
	}
}

// Each operation of two words, with words at each edge: sums leave 64 bits, and come back.
func TestP152SumsAtTheEdges(t *testing.T) {
	for _, a := range edges() {
		for _, b := range edges() {
			for word, want := range map[string]uint64{
				"add": a + b, "sub": a - b, "mul": a * b, "div": quotient(a, b), "mod": rest(a, b), "less": truth(a < b), "equal": truth(a == b),
			} {
				text := fmt.Sprintf("push %d push %d %s return", a, b, word)
				s := overEach(worldOf(text))["a trie"]
				if o, e := s.run(first(100)); o.Result != want || o.Status != api.Done || e != api.OK {
					t.Errorf("P15.2: %s: %+v, %d, not %d", text, o, e, want)
				}
				if plain := newPlain(worldOf(text)); plainResult(plain) != want {
					t.Errorf("P15.2: %s: the plain machine has %d", text, plainResult(plain))
				}
			}
		}
	}
}

func plainResult(p *plain) uint64 {
	o, _ := p.run(first(100))
	return o.Result
}

func quotient(a, b uint64) uint64 {
	if b == 0 {
		return 0
	}
	return a / b
}

func rest(a, b uint64) uint64 {
	if b == 0 {
		return 0
	}
	return a % b
}

func truth(is bool) uint64 {
	if is {
		return 1
	}
	return 0
}

func TestP152PushesOfEachLength(t *testing.T) {
	for size := 1; size <= 8; size++ {
		greatest := ^uint64(0) >> (64 - 8*size)
		for _, n := range []uint64{0, 1, 66, 0x42, 0x0102030405060708 & greatest, 1 << (8*size - 1), greatest - 1, greatest} {
			ends(t, fmt.Sprintf("push%d %d return", size, n), done(99, n))
			ends(t, fmt.Sprintf("push%d %d push 1 add return", size, n), done(97, n+1))
		}
	}
	ends(t, "push8 72623859790382856 return", done(99, 0x0102030405060708))
	ends(t, "push3 66051 return", done(99, 0x010203))
}

// Dup and Swap need as many words as their byte says.
func TestP152DupAndSwapOfEachDepth(t *testing.T) {
	for n := range 256 {
		dup, swap := fmt.Sprintf("dup %d", n), fmt.Sprintf("swap %d", n)
		var words string
		for i := range min(n+1, 32) {
			words += fmt.Sprintf("push %d ", i+100)
		}
		switch {
		case n < 31:
			ends(t, words+dup+" return", done(uint64(98-n), 100))
			ends(t, words+"push 99 "+swap+" return", done(uint64(97-n), 100))
			ends(t, words+"push 99 "+swap+times(n+1, " pop")+"return", done(uint64(97-2*n-1), 99))
		case n == 31:
			// As many words as there may be: one more has no room, and to be swapped there would have to be one more.
			ends(t, words+dup, fault(api.Overflow))
			ends(t, words+swap, fault(api.Underflow))
		default:
			ends(t, words+dup, fault(api.Underflow))
			ends(t, words+swap, fault(api.Underflow))
		}
		if n > 0 && n < 32 {
			few := words[:len(words)-len("push 100 ")]
			ends(t, few+dup, fault(api.Underflow))
			ends(t, few+"push 99 "+swap, fault(api.Underflow))
		}
	}
	ends(t, "dup 0", fault(api.Underflow))
	ends(t, "swap 0", fault(api.Underflow))
	ends(t, "push 1 swap 0", fault(api.Underflow))
}

// What is taken is gone, and no more than that: one word too few below it is an Underflow, just as many are none.
func TestP152WordsThatAreTaken(t *testing.T) {
	for op := range 256 {
		r, is := plainTable[byte(op)]
		if !is || r.word == "dup" || r.word == "swap" {
			continue
		}
		statement := statementOf(byte(op))
		for has := range r.takes + 2 {
			// The words are 0: of Jump this is the place of a mark, of Call an address, a value, an input, a gas.
			text := "mark " + times(has, "push 0") + statement
			p := newPlain(worldOf(text))
			o, _ := p.run(first(100))
			if is := o.Status == api.Underflow; is != (has < r.takes) {
				t.Fatalf("the plain machine has %+v of %s", o, text)
			}
			ends(t, text, o)
			if r.word == "jump" {
				continue
			}
			// All that is left is taken off by one; then there is none.
			left := has - r.takes + r.gives
			if left < 0 || o.Status != api.Done || r.word == "stop" || r.word == "return" {
				continue
			}
			ends(t, text+" "+times(left, "pop")+"stop", done(o.Gas-uint64(left), 0))
			ends(t, text+" "+times(left, "pop")+"pop", fault(api.Underflow))
		}
	}
}

// statementOf is an operation as text, with a number behind it, if it has one.
func statementOf(op byte) string {
	r := plainTable[op]
	text, e := opcode.Print(append([]byte{op}, make([]byte, r.behind)...))
	if e != api.OK {
		panic(e)
	}
	return text
}

// Just MaxStack words, and one more: on a full stack an operation that takes as many as it gives is done, one that gives more is not.
func TestP152TheFullStack(t *testing.T) {
	ends(t, times(32, "push 1"), done(68, 0))
	ends(t, times(33, "push 1"), fault(api.Overflow))
	ends(t, times(32, "push 1")+"pop push 1", done(66, 0))
	ends(t, times(32, "push 1")+"pop push 1 push 1", fault(api.Overflow))
	told := 0
	for op := range 256 {
		r, is := plainTable[byte(op)]
		if !is || r.word == "jump" {
			continue
		}
		text := times(32, "push 0") + statementOf(byte(op))
		p := newPlain(worldOf(text))
		o, _ := p.run(first(200))
		if is := o.Status == api.Overflow; is != (r.gives > r.takes) {
			t.Fatalf("the plain machine has %+v of %s", o, text)
		}
		if r.gives > r.takes {
			told++
		}
		runs(t, short(text), worldOf(text), first(200), o)
	}
	// Eight pushes, dup, self, caller, value, gas, number, result.
	if told != 15 {
		t.Errorf("P15.2: %d operations give more than they take", told)
	}
}

func TestP152Jumps(t *testing.T) {
	for _, k := range []struct {
		text string
		want api.Outcome
	}{
		{"push 4 jump byte 255 mark push 5 return", done(94, 5)},
		{"push 5 jump byte 255 mark push 5 return", fault(api.BadJump)},
		{"push 3 jump byte 255 mark push 5 return", fault(api.BadJump)},
		{"push 0 jump", fault(api.BadJump)},
		{"push 3 jump mark", done(95, 0)},
		{"push 4 jump mark", fault(api.BadJump)},
		{"push 5 jump mark", fault(api.BadJump)},
		{"push 18446744073709551615 jump mark", fault(api.BadJump)},
		{"push 9223372036854775808 jump mark", fault(api.BadJump)},
		{"push 4294967299 jump mark", fault(api.BadJump)},
		// A place that is one of a mark, if only the lowest byte, or the lowest half, were asked.
		{"push 259 jump byte 66 byte 66", fault(api.BadJump)},
		{"push8 18446744069414584331 jump mark mark", fault(api.BadJump)},
		// A byte behind a push is no mark; behind one that is cut off it is.
		{"push 4 jump push1 66 stop", fault(api.BadJump)},
		{"push 5 jump push2 66 stop", fault(api.BadJump)},
		{"push 4 jump dup 66 stop", fault(api.BadJump)},
		{"push 4 jump byte 39 byte 66 stop", done(95, 0)},
		{"push 4 jump byte 255 byte 66 stop", done(95, 0)},
		// Back, and back once more.
		{"push 0 mark push 1 add dup 0 push 5 less push 2 jumpif return", done(100-1-5*10, 5)},
	} {
		ends(t, k.text, k.want)
	}
	// A place that is one of a mark, if any of the bits above a byte were not asked.
	ends(t, "push8 10 jump mark push 5 return", done(94, 5))
	for bit := 8; bit < 64; bit++ {
		ends(t, fmt.Sprintf("push8 %d jump mark push 5 return", uint64(1)<<bit+10), fault(api.BadJump))
	}
	// The last byte of the longest code.
	text := "push 255 jump " + times(252, "stop") + "mark"
	ends(t, text, done(95, 0))
}

func TestP152JumpIf(t *testing.T) {
	for _, k := range []struct {
		text string
		want api.Outcome
	}{
		{"push 1 push 6 jumpif stop mark push 5 return", done(93, 5)},
		{"push 2 push 6 jumpif stop mark push 5 return", done(93, 5)},
		{"push8 18446744073709551615 push 13 jumpif stop mark push 5 return", done(93, 5)},
		{"push8 4294967296 push 13 jumpif stop mark push 5 return", done(93, 5)},
		{"push 0 push 6 jumpif stop mark push 5 return", done(95, 0)},
		{"push 1 push 7 jumpif stop mark push 5 return", fault(api.BadJump)},
		{"push 1 push 99 jumpif stop", fault(api.BadJump)},
		{"push 1 push 18446744073709551615 jumpif stop", fault(api.BadJump)},
		// It does not jump: what the place is nobody asks.
		{"push 0 push 99 jumpif push 5 return", done(94, 5)},
		{"push 0 push 0 jumpif push 5 return", done(94, 5)},
		{"push 0 push 18446744073709551615 jumpif push 5 return", done(94, 5)},
	} {
		ends(t, k.text, k.want)
	}
}

// Inputs of no word to more than a transaction may have.
func TestP152Input(t *testing.T) {
	for size := range api.MaxInput + 3 {
		f := first(100)
		f.Input = nil
		for i := range size {
			f.Input = append(f.Input, uint64(i*i+11))
		}
		for n := range api.MaxInput + 5 {
			want := uint64(0)
			if n < size {
				want = f.Input[n]
			}
			text := fmt.Sprintf("push %d input return", n)
			runs(t, text, worldOf(text), f, done(98, want))
		}
		for _, n := range []uint64{1 << 8, 1 << 16, 1 << 32, 1<<32 + 1, 1 << 63, 1<<63 + 1, most - 1, most} {
			text := fmt.Sprintf("push %d input return", n)
			runs(t, text, worldOf(text), f, done(98, 0))
		}
	}
}

// The frame's words are told as they are.
func TestP152TheFrame(t *testing.T) {
	for _, self := range edges() {
		w := world{map[uint64]holding{}, map[place]uint64{}}
		for i, word := range []string{"self", "caller", "value", "number"} {
			w.accounts[self] = holding{code: coded(word + " return"), nonce: 1}
			for _, n := range edges() {
				words := [4]uint64{self, self + 1, self + 2, self + 3}
				if i > 0 {
					words[i] = n
				}
				f := api.Frame{Self: words[0], Caller: words[1], Value: words[2], Number: words[3], Gas: 1, Depth: 1}
				runs(t, word, w, f, done(0, words[i]))
			}
		}
	}
}

func TestP152LoadAndStore(t *testing.T) {
	w := worldOf("push 7 load push 8 load add push 7 dup 1 store push 8 push 0 store push 9 push 5 store return", "")
	w.slots[place{1, 7}], w.slots[place{1, 8}], w.slots[place{2, 7}], w.slots[place{2, 9}] = 30, 4, 500, 600
	p := runs(t, "three slots", w, first(200), done(200-20-9-60, 34))
	if p.now.slots[place{1, 7}] != 34 || p.now.slots[place{1, 8}] != 0 || p.now.slots[place{1, 9}] != 5 || p.now.slots[place{2, 7}] != 500 {
		t.Error("P15.2: slots:", p.now.slots)
	}
	if p.changes != 3 {
		t.Error("P15.2: changes:", p.changes)
	}
	for _, slot := range edges() {
		for _, value := range edges() {
			text := fmt.Sprintf("push %d push %d store push %d load return", slot, value, slot)
			p := ends(t, text, done(67, value))
			if p.now.slots[place{1, slot}] != value || p.touched() != 2 {
				t.Errorf("P15.2: %s: %v, touched %d", text, p.now.slots, p.touched())
			}
		}
	}
}
