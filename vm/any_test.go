package vm_test

import (
	"fmt"
	"slices"
	"testing"

	"pergola/api"
)

// writer writes codes that look like any, of statements that mostly find what they need.
type writer struct {
	*dice
	code         []byte
	has          int   // about so many words are on the stack
	jumps, marks []int // places: of the bytes that tell where to, and of the marks
}

func (w *writer) lay(gives int, format string, a ...any) {
	w.code = append(w.code, coded(fmt.Sprintf(format, a...))...)
	w.has = max(0, w.has+gives)
}

// statement lays one of a kind.
func (w *writer) statement(kind string) {
	switch kind {
	case "push":
		w.lay(1, "push %d", oneOf(w.dice, append(edges(), 3, 4, 5)...))
	case "sum":
		w.lay(-1, "%s", oneOf(w.dice, "add", "sub", "mul", "div", "mod", "less", "equal", "not", "pop"))
	case "jump":
		w.lay(0, "%s", oneOf(w.dice, "push 1", "push 0", "", ""))
		w.jumps = append(w.jumps, len(w.code)+1)
		w.lay(0, "push 200 %s", oneOf(w.dice, "jump", "jumpif", "jumpif"))
	case "mark":
		w.marks = append(w.marks, len(w.code))
		w.lay(0, "mark")
	case "store":
		w.lay(0, "push %d push %d store", w.below(4), oneOf(w.dice, edges()...))
	case "call":
		gas := oneOf[uint64](w.dice, 0, 30, 200, 1000, most)
		w.lay(1, "%s", calling(uint64(1+w.below(5)), oneOf[uint64](w.dice, 0, 0, 1, 300, 5000), uint64(w.below(3)), gas))
	case "tell":
		w.lay(1, "%s", oneOf(w.dice, "self", "caller", "value", "number", "result"))
	case "ask":
		w.lay(1, "push %d %s", w.below(6), oneOf(w.dice, "input", "load", "balance"))
	case "gas":
		w.lay(1, "gas")
	case "dup":
		w.lay(1, "%s %d", oneOf(w.dice, "dup", "dup", "swap"), w.below(w.has+1))
	case "end":
		w.lay(0, "%s", oneOf(w.dice, "", "", "", "", "stop", "return", "revert", "push 5 return", "push 6 revert"))
	case "any":
		w.lay(0, "%s", oneOf(w.dice, "", "", "", "", "byte 255", "byte 9", "byte 40", "byte 49", "byte 39", times(20+w.below(20), "push 1")))
	}
}

// anyCode is a code without those kinds of statements.
func anyCode(d *dice, without ...string) string {
	w := &writer{dice: d}
	kinds := []string{"push", "push", "push", "sum", "sum", "jump", "mark", "store", "call", "call", "tell", "ask", "ask", "gas", "dup", "end", "any"}
	kinds = slices.DeleteFunc(kinds, func(kind string) bool { return slices.Contains(without, kind) })
	for range 1 + d.below(25) {
		kind := oneOf(d, kinds...)
		if kind == "sum" && w.has < 2 && d.below(10) > 0 {
			kind = "push"
		}
		w.statement(kind)
	}
	for _, at := range w.jumps {
		if len(w.marks) > 0 && d.below(8) > 0 {
			w.code[at] = byte(oneOf(d, w.marks...))
		}
	}
	return string(w.code[:min(len(w.code), api.MaxCode)])
}

// anyWorld has some accounts with such codes, poor and rich ones.
func anyWorld(d *dice) world {
	w := worldOf("", "", "", "")
	for address := range uint64(5) {
		w.accounts[address] = holding{address, oneOf[uint64](d, 0, 1, 300, 1000, 5000, most-300, most), anyCode(d)}
		if d.below(2) == 0 {
			w.slots[place{address, uint64(d.below(4))}] = oneOf(d, edges()[1:]...)
		}
	}
	return w
}

func anyFrame(d *dice) api.Frame {
	f := api.Frame{Self: uint64(d.below(6)), Caller: oneOf(d, edges()...), Value: oneOf(d, edges()...), Number: oneOf(d, edges()...), Depth: oneOf(d, 1, 1, 1, 1, 2, 3, 4, 5, 0, -1)}
	f.Gas = oneOf(d, 0, uint64(d.below(100)), uint64(d.below(2000)), 1000, 2000, 2000, api.MaxGas, api.MaxGas, api.MaxGas+1)
	for range d.below(4) {
		f.Input = append(f.Input, oneOf(d, edges()...))
	}
	return f
}

// Any codes, that call each other, one Run behind the other: over each kind of trie all is as the plain machine has it.
func TestP152AnyCodes(t *testing.T) {
	events := map[string]int{}
	for seed := range uint64(2000) {
		d := &dice{seed}
		w := anyWorld(d)
		frames := make([]api.Frame, 4)
		for i := range frames {
			frames[i] = anyFrame(d)
		}
		for kind, s := range overEach(w) {
			b := both{t, s, newPlain(w), fmt.Sprintf("seed %d, over %s", seed, kind)}
			for _, f := range frames {
				b.run(f)
				b.pay(f.Self, f.Caller%6, f.Value%1001)
			}
			if kind == "a trie" {
				for what, n := range b.p.events {
					events[what] += n
				}
			}
		}
	}
	for _, r := range plainTable {
		if events[r.word] < 50 {
			t.Errorf("P15.2: %s was done %d times", r.word, events[r.word])
		}
	}
	for status := range api.NoFunds {
		if n := events[fmt.Sprint("ended ", status)]; n < 50 {
			t.Errorf("P15.2: %d calls have ended with the status %d", n, status)
		}
		if n := events[fmt.Sprint("call ", status)]; n < 10 {
			t.Errorf("P15.2: %d calls of calls have ended with the status %d", n, status)
		}
	}
	if events["call unpaid"] < 50 {
		t.Errorf("P15.2: %d calls could not be paid", events["call unpaid"])
	}
}

// Bytes whatever they are.
func TestR1AnyBytes(t *testing.T) {
	d := &dice{15}
	var ops []byte
	for op := range plainTable {
		ops = append(ops, op)
	}
	slices.Sort(ops)
	for range 3000 {
		w := worldOf("", "push 1 return", "push 2 revert")
		code := make([]byte, d.below(100))
		for i := range code {
			switch d.below(4) {
			case 0:
				code[i] = byte(d.below(256))
			case 1:
				code[i] = 0x20
			default:
				code[i] = oneOf(d, ops...)
			}
		}
		w.accounts[1] = holding{1, 1000, string(code)}
		f := anyFrame(d)
		f.Self = 1
		both{t, overEach(w)["a trie"], newPlain(w), fmt.Sprintf("%x", code)}.run(f)
	}
}

// Any codes, of which one thing or the other is refused.
func TestTheStateRefusesAnyCode(t *testing.T) {
	refused := 0
	for seed := range uint64(1500) {
		d := &dice{seed + 5000}
		w := anyWorld(d)
		f := anyFrame(d)
		f.Gas = min(f.Gas, api.MaxGas)
		o := ownOf(w)
		over[*tree](o).run(f)
		asks := o.calls()
		if len(asks) < 2 {
			continue
		}
		ask := asks[1+d.below(len(asks)-1)]
		e := oneOf(d, someErrors()[1:]...)
		o = ownOf(w)
		s, p := over[*tree](o), newPlain(w)
		o.refuse[ask], p.refuse[ask] = e, e
		got, gotE := s.run(f)
		if want, wantE := p.run(f); got != want || gotE != wantE {
			t.Fatalf("P15.2: seed %d, where %q is refused: %+v, %d, not %+v, %d", seed, ask, got, gotE, want, wantE)
		}
		if gotE == e {
			refused++
		}
		o.refuse, p.refuse = map[string]api.Errno{}, map[string]api.Errno{}
		b := both{t, s, p, fmt.Sprintf("seed %d, where %q was refused", seed, ask)}
		b.same()
		b.run(f)
	}
	if refused < 300 {
		t.Errorf("only %d were refused", refused)
	}
}
