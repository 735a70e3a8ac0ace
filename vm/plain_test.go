package vm_test

import (
	"fmt"
	"maps"
	"math/big"
	"strings"

	"pergola/api"
)

// The chapter worked out in a slow way, over maps that are copied whole ahead of each call, with numbers without a bound: what the package is held against.

// holding is what an address has.
type holding struct {
	nonce, balance uint64
	code           string
}

type place struct{ address, slot uint64 }

// world are all accounts, and all slots that are not 0.
type world struct {
	accounts map[uint64]holding
	slots    map[place]uint64
}

func (w world) clone() world { return world{maps.Clone(w.accounts), maps.Clone(w.slots)} }

// refusal is how the plain machine gives up.
type refusal api.Errno

type plain struct {
	now     world
	set     map[place]int // slots whose value was set, and not taken back
	changes int           // that stand

	asked  map[uint64]int // addresses that were touched
	looked map[place]int  // slots that were touched
	refuse map[string]api.Errno
	events map[string]int // what has happened, so that tests can tell whether enough has
}

func newPlain(w world) *plain {
	return &plain{now: w.clone(), set: map[place]int{}, asked: map[uint64]int{}, looked: map[place]int{}, refuse: map[string]api.Errno{}, events: map[string]int{}}
}

// backer tells what takes all back to how it is now.
func (p *plain) backer() func() {
	now, set, changes := p.now.clone(), maps.Clone(p.set), p.changes
	return func() { p.now, p.set, p.changes = now, set, changes }
}

func (p *plain) ask(format string, a ...any) {
	if e := p.refuse[fmt.Sprintf(format, a...)]; e != api.OK {
		panic(refusal(e))
	}
}

// try does what may be refused: then all is as it was.
func (p *plain) try(do func()) (e api.Errno) {
	back := p.backer()
	defer func() {
		switch r := recover().(type) {
		case nil:
		case refusal:
			back()
			e = api.Errno(r)
		default:
			panic(r)
		}
	}()
	do()
	return api.OK
}

func (p *plain) get(address uint64) holding {
	p.asked[address]++
	p.ask("account %d", address)
	return p.now.accounts[address]
}

func (p *plain) put(address, balance uint64) {
	h := p.get(address)
	h.balance = balance
	p.now.accounts[address] = h
	p.changes++
}

func (p *plain) slot(address, slot uint64) uint64 {
	at := place{address, slot}
	p.looked[at]++
	p.get(address)
	p.ask("storage %d", address)
	if p.set[at] == 0 {
		p.ask("slot %d %d", address, slot)
	}
	return p.now.slots[at]
}

func (p *plain) setSlot(address, slot, value uint64) {
	at := place{address, slot}
	p.looked[at]++
	p.get(address)
	p.now.slots[at] = value
	p.set[at]++
	p.changes++
}

func (p *plain) code(address uint64) string {
	code := p.get(address).code
	if code != "" {
		p.ask("code %s", code)
	}
	return code
}

func (p *plain) touched() int { return len(p.asked) + len(p.looked) }

func (p *plain) pay(from, to, value uint64) (paid bool, e api.Errno) {
	e = p.try(func() { paid = p.doPay(from, to, value) })
	return paid, e
}

func (p *plain) doPay(from, to, value uint64) bool {
	if value == 0 {
		return true
	}
	has := p.get(from).balance
	if has < value {
		return false
	}
	if from == to {
		return true
	}
	gets := p.get(to).balance
	if new(big.Int).Add(whole(gets), whole(value)).BitLen() > 64 {
		return false
	}
	p.put(from, has-value)
	p.put(to, gets+value)
	return true
}

func (p *plain) run(f api.Frame) (o api.Outcome, e api.Errno) {
	if f.Gas > 20000 {
		return api.Outcome{}, api.ErrArg
	}
	e = p.try(func() { o = p.doRun(f) })
	return o, e
}

func (p *plain) doRun(f api.Frame) api.Outcome {
	o := api.Outcome{Status: api.TooDeep}
	if f.Depth <= 4 {
		back := p.backer()
		o = p.steps(f)
		if o.Status != api.Done {
			back()
		}
	}
	if o.Status != api.Done && o.Status != api.Reverted {
		o.Gas, o.Result = 0, 0
	}
	p.events[fmt.Sprint("ended ", o.Status)]++
	return o
}

// plainRow is a line of chapter 14's table.
type plainRow struct {
	word                 string
	behind, takes, gives int
	gas                  uint64
}

const chapter = `
00 stop 0 0 0 0
01 add 0 2 1 1
02 sub 0 2 1 1
03 mul 0 2 1 2
04 div 0 2 1 2
05 mod 0 2 1 2
06 less 0 2 1 1
07 equal 0 2 1 1
08 not 0 1 1 1
20 push 1 0 1 1
21 push 2 0 1 1
22 push 3 0 1 1
23 push 4 0 1 1
24 push 5 0 1 1
25 push 6 0 1 1
26 push 7 0 1 1
27 push 8 0 1 1
30 pop 0 1 0 1
31 dup 1 0 1 1
32 swap 1 0 0 1
40 jump 0 1 0 3
41 jumpif 0 2 0 3
42 mark 0 0 0 1
50 load 0 1 1 10
51 store 0 2 0 20
60 self 0 0 1 1
61 caller 0 0 1 1
62 value 0 0 1 1
63 input 0 1 1 1
64 balance 0 1 1 8
65 gas 0 0 1 1
66 number 0 0 1 1
70 call 0 4 1 40
71 result 0 0 1 1
80 return 0 1 0 0
81 revert 0 1 0 0
`

var plainTable = readTable()

func readTable() map[byte]plainRow {
	all := map[byte]plainRow{}
	for line := range strings.Lines(strings.TrimSpace(chapter)) {
		var op byte
		var r plainRow
		if _, err := fmt.Sscanf(line, "%x %s %d %d %d %d", &op, &r.word, &r.behind, &r.takes, &r.gives, &r.gas); err != nil {
			panic(err)
		}
		all[op] = r
	}
	return all
}

// plainMarks tells where can be jumped to.
func plainMarks(code string) map[int]bool {
	marks := map[int]bool{}
	for at := 0; at < len(code); at++ {
		if r := plainTable[code[at]]; at+r.behind < len(code) {
			marks[at] = r.word == "mark"
			at += r.behind
		}
	}
	return marks
}

func (p *plain) steps(f api.Frame) api.Outcome {
	code := p.code(f.Self)
	x := &plainCall{p: p, f: f, marks: plainMarks(code), gas: f.Gas}
	for {
		if x.at >= len(code) {
			return api.Outcome{Gas: x.gas}
		}
		r, is := plainTable[code[x.at]]
		if !is || x.at+r.behind >= len(code) {
			return api.Outcome{Status: api.BadOp}
		}
		if x.gas < r.gas {
			return api.Outcome{Status: api.NoGas}
		}
		x.gas -= r.gas
		own := whole(0).SetBytes([]byte(code[x.at+1 : x.at+1+r.behind])).Uint64()
		needs := r.takes
		switch r.word {
		case "dup":
			needs = int(own) + 1
		case "swap":
			needs = int(own) + 2
		}
		if len(x.stack) < needs {
			return api.Outcome{Status: api.Underflow}
		}
		if len(x.stack)-r.takes+r.gives > 32 {
			return api.Outcome{Status: api.Overflow}
		}
		x.at += 1 + r.behind
		left := len(x.stack) - r.takes
		a := append(append([]uint64{}, x.stack[left:]...), 0, 0)
		x.stack = append([]uint64{}, x.stack[:left]...)
		p.events[r.word]++
		if o, over := x.do(r.word, own, a); over {
			return o
		}
	}
}

// plainCall is a call while it is done.
type plainCall struct {
	p     *plain
	f     api.Frame
	marks map[int]bool
	at    int
	stack []uint64 // the topmost one last
	gas   uint64
	last  uint64
}

func (x *plainCall) lay(n uint64) { x.stack = append(x.stack, n) }

func (x *plainCall) layIf(is bool) {
	if is {
		x.lay(1)
	} else {
		x.lay(0)
	}
}

// do does an operation, which has taken the words a; behind them there are noughts.
func (x *plainCall) do(word string, own uint64, a []uint64) (api.Outcome, bool) {
	switch word {
	case "stop":
		return api.Outcome{Gas: x.gas}, true
	case "return":
		return api.Outcome{Gas: x.gas, Result: a[0]}, true
	case "revert":
		return api.Outcome{Status: api.Reverted, Gas: x.gas, Result: a[0]}, true
	case "add", "sub", "mul", "div", "mod":
		x.lay(sum(word, whole(a[0]), whole(a[1])))
	case "less":
		x.layIf(whole(a[0]).Cmp(whole(a[1])) < 0)
	case "equal":
		x.layIf(a[0] == a[1])
	case "not":
		x.layIf(a[0] == 0)
	case "push":
		x.lay(own)
	case "dup":
		x.lay(x.stack[len(x.stack)-1-int(own)])
	case "swap":
		i, k := len(x.stack)-1, len(x.stack)-2-int(own)
		top := x.stack[i]
		x.stack[i] = x.stack[k]
		x.stack[k] = top
	case "jump":
		return x.jump(a[0])
	case "jumpif":
		if a[0] != 0 {
			return x.jump(a[1])
		}
	case "load":
		x.lay(x.p.slot(x.f.Self, a[0]))
	case "store":
		x.p.setSlot(x.f.Self, a[0], a[1])
	case "balance":
		x.lay(x.p.get(a[0]).balance)
	case "call":
		return x.call(a[0], a[1], a[2], a[3])
	default:
		x.tell(word, a[0])
	}
	return api.Outcome{}, false
}

func (x *plainCall) tell(word string, a uint64) {
	switch word {
	case "self":
		x.lay(x.f.Self)
	case "caller":
		x.lay(x.f.Caller)
	case "value":
		x.lay(x.f.Value)
	case "gas":
		x.lay(x.gas)
	case "number":
		x.lay(x.f.Number)
	case "result":
		x.lay(x.last)
	case "input":
		n := uint64(0)
		for i, word := range x.f.Input {
			if uint64(i) == a {
				n = word
			}
		}
		x.lay(n)
	}
}

func (x *plainCall) jump(to uint64) (api.Outcome, bool) {
	for at, is := range x.marks {
		if is && uint64(at) == to {
			x.at = at
			return api.Outcome{}, false
		}
	}
	return api.Outcome{Status: api.BadJump}, true
}

func (x *plainCall) call(to, value, input, gas uint64) (api.Outcome, bool) {
	if gas > x.gas {
		gas = x.gas
	}
	x.gas -= gas
	if x.f.Depth+1 > 4 {
		return api.Outcome{Status: api.TooDeep}, true
	}
	back := x.p.backer()
	if !x.p.doPay(x.f.Self, to, value) {
		x.p.events["call unpaid"]++
		x.lay(0)
		x.last = 0
		x.gas += gas
		return api.Outcome{}, false
	}
	o := x.p.doRun(api.Frame{Self: to, Caller: x.f.Self, Value: value, Input: []uint64{input}, Gas: gas, Number: x.f.Number, Depth: x.f.Depth + 1})
	x.p.events[fmt.Sprint("call ", o.Status)]++
	if o.Status != api.Done && o.Status != api.Reverted {
		return api.Outcome{Status: o.Status}, true
	}
	x.gas += o.Gas
	x.last = o.Result
	x.layIf(o.Status == api.Done)
	if o.Status == api.Reverted {
		back()
	}
	return api.Outcome{}, false
}

func whole(n uint64) *big.Int { return new(big.Int).SetUint64(n) }

// sum works out a sum modulo 2^64.
func sum(word string, a, b *big.Int) uint64 {
	x := new(big.Int)
	switch word {
	case "add":
		x.Add(a, b)
	case "sub":
		x.Sub(a, b)
	case "mul":
		x.Mul(a, b)
	case "div":
		if b.Sign() != 0 {
			x.Div(a, b)
		}
	case "mod":
		if b.Sign() != 0 {
			x.Mod(a, b)
		}
	}
	return x.Mod(x, new(big.Int).Lsh(whole(1), 64)).Uint64()
}
