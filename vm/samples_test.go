package vm_test

import (
	"fmt"
	"strings"
	"testing"

	"pergola/accounts"
	"pergola/api"
	"pergola/opcode"
	"pergola/partial"
	"pergola/recorder"
	"pergola/state"
	"pergola/trie"
	"pergola/vm"
	"pergola/words"
)

const most = 1<<64 - 1

// edges are words at each edge.
func edges() []uint64 {
	return []uint64{0, 1, 2, 7, 255, 256, 1 << 32, 1<<32 + 1, 1<<63 - 1, 1 << 63, most - 1, most}
}

// coded assembles a code.
func coded(text string) string {
	code, at, e := opcode.Assemble(text)
	if e != api.OK {
		panic(fmt.Sprintf("%q is no code: %d at %d", text, e, at))
	}
	return string(code)
}

// worldOf has a balance of 1000 at each of some addresses, 1, 2, .., with the codes of these texts.
func worldOf(texts ...string) world {
	w := world{map[uint64]holding{}, map[place]uint64{}}
	for i, text := range texts {
		w.accounts[uint64(i+1)] = holding{uint64(i), 1000, coded(text)}
	}
	return w
}

func (w world) with(address, balance uint64) world {
	w = w.clone()
	h := w.accounts[address]
	h.balance = balance
	w.accounts[address] = h
	return w
}

// fullOf lays a world into a source that has everything, without a state: so a code may be longer than those that a state takes.
func fullOf(w world) *state.Full {
	f := state.NewFull()
	for at, value := range w.slots {
		x, _ := f.Storage(at.address, api.Digest{})
		x.Put(words.Key(at.slot), accounts.Value(value))
	}
	for address, h := range w.accounts {
		x, _ := f.Storage(address, api.Digest{})
		a := api.Account{Nonce: h.nonce, Balance: h.balance, Code: f.Learn([]byte(h.code)), Storage: x.Root()}
		if !accounts.Is(a) {
			f.Accounts().Put(words.Key(address), accounts.Encode(a))
		}
	}
	return f
}

// recording is a source of recorders, all of which it keeps, and of codes, which it keeps too.
type recording struct {
	f     *state.Full
	all   []*recorder.Recorder
	codes [][]byte
}

func (r *recording) record(x *trie.Trie) *recorder.Recorder {
	r.all = append(r.all, recorder.New(x))
	return r.all[len(r.all)-1]
}

func (r *recording) Accounts() *recorder.Recorder { return r.record(r.f.Accounts()) }

func (r *recording) Storage(address uint64, root api.Digest) (*recorder.Recorder, api.Errno) {
	x, e := r.f.Storage(address, root)
	return r.record(x), e
}

func (r *recording) Code(d api.Digest) ([]byte, api.Errno) {
	code, e := r.f.Code(d)
	r.codes = append(r.codes, code)
	return code, e
}

// notes are all nodes that were touched.
func (r *recording) notes() [][]byte {
	var l [][]byte
	for _, x := range r.all {
		l = append(l, x.Notes()...)
	}
	return l
}

// told is a source that knows nothing but a root, some nodes and some codes.
type told struct {
	root  api.Digest
	nodes [][]byte
	f     *state.Full // knows the codes alone
}

func newTold(root api.Digest, nodes, codes [][]byte) told {
	x := told{root, nodes, state.NewFull()}
	for _, code := range codes {
		x.f.Learn(code)
	}
	return x
}

func (x told) Accounts() *partial.Partial { return partial.New(x.root, x.nodes) }

func (x told) Storage(address uint64, root api.Digest) (*partial.Partial, api.Errno) {
	return partial.New(root, x.nodes), api.OK
}

func (x told) Code(d api.Digest) ([]byte, api.Errno) { return x.f.Code(d) }

// machine is a state over whatever trie, with the calls of this layer.
type machine interface {
	run(f api.Frame) (api.Outcome, api.Errno)
	pay(from, to, value uint64) (bool, api.Errno)
	Get(address uint64) (api.Account, api.Errno)
	Set(address, nonce, balance uint64) api.Errno
	Slot(address, slot uint64) (uint64, api.Errno)
	SetSlot(address, slot, value uint64) api.Errno
	Code(address uint64) ([]byte, api.Errno)
	SetCode(address uint64, code []byte) api.Errno
	Codes() [][]byte
	Mark() int
	Back(mark int) bool
	Touched() int
	Commit() (api.Digest, api.Errno)
}

type on[T state.Tree] struct{ *state.State[T] }

func (o on[T]) run(f api.Frame) (api.Outcome, api.Errno) { return vm.Run(o.State, f) }

func (o on[T]) pay(from, to, value uint64) (bool, api.Errno) { return vm.Pay(o.State, from, to, value) }

func over[T state.Tree](from state.Source[T]) machine { return on[T]{state.New(from)} }

// overEach are states on top of a world, of each kind of trie.
func overEach(w world) map[string]machine {
	f := fullOf(w)
	return map[string]machine{
		"a trie":         over[*trie.Trie](fullOf(w)),
		"a recorder":     over[*recorder.Recorder](&recording{f: f}),
		"a partial trie": over[*partial.Partial](newTold(f.Accounts().Root(), f.Texts(), f.Texts())),
		"an own tree":    over[*tree](ownOf(w)),
	}
}

// first is a frame of the address 1, as the first call of a transaction is.
func first(gas uint64) api.Frame {
	return api.Frame{Self: 1, Caller: 9, Value: 8, Input: []uint64{3, 4, most}, Gas: gas, Number: 77, Depth: 1}
}

// runs asks for the outcome of a frame, over each kind of trie, and of the plain machine; and that all is then as that says. It tells that machine.
func runs(t *testing.T, what string, w world, f api.Frame, want api.Outcome) *plain {
	t.Helper()
	for kind, s := range overEach(w) {
		b := both{t, s, newPlain(w), what + ", over " + kind}
		if o := b.run(f); o != want {
			t.Errorf("%s, over %s: %+v, not %+v", what, kind, o, want)
		}
	}
	p := newPlain(w)
	p.run(f)
	return p
}

// ends is runs of a code of the address 1, with a gas of 100.
func ends(t *testing.T, text string, want api.Outcome) *plain {
	t.Helper()
	return runs(t, short(text), worldOf(text, "", ""), first(100), want)
}

func done(gas, result uint64) api.Outcome { return api.Outcome{Gas: gas, Result: result} }

func reverted(gas, result uint64) api.Outcome {
	return api.Outcome{Status: api.Reverted, Gas: gas, Result: result}
}

func fault(status int) api.Outcome { return api.Outcome{Status: status} }

// times is a text so many times, one behind the other.
func times(n int, text string) string { return strings.Repeat(text+" ", n) }

func short(text string) string {
	if len(text) > 200 {
		return text[:200] + ".."
	}
	return text
}

// dice tells numbers out of a seed, the same ones each time.
type dice struct{ n uint64 }

func (d *dice) below(n int) int {
	d.n = d.n*6364136223846793005 + 1442695040888963407
	return int(d.n>>33) % n
}

func oneOf[V any](d *dice, l ...V) V { return l[d.below(len(l))] }
