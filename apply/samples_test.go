package apply_test

import (
	"fmt"
	"maps"
	"strings"
	"testing"

	"pergola/accounts"
	"pergola/api"
	"pergola/apply"
	"pergola/opcode"
	"pergola/partial"
	"pergola/recorder"
	"pergola/state"
	"pergola/trie"
	"pergola/words"
)

const most = 1<<64 - 1

// holding is what an address has.
type holding struct {
	nonce, balance uint64
	code           string
}

type place struct{ address, slot uint64 }

// world are all accounts, and all slots that are not 0.
type world struct {
	accounts map[uint64]holding
	slots    map[place]uint64
}

func (w world) clone() world { return world{maps.Clone(w.accounts), maps.Clone(w.slots)} }

// with is a world in which an address has something else.
func (w world) with(address uint64, h holding) world {
	w = w.clone()
	w.accounts[address] = h
	return w
}

// sparse has 1000 at the address 1, and what is told at other ones.
func sparse(others map[uint64]holding) world {
	w := world{map[uint64]holding{1: {balance: 1000}}, map[place]uint64{}}
	maps.Copy(w.accounts, others)
	return w
}

// callee has 1000 at the address 1, and a code at the address 2.
func callee(text string) world { return sparse(map[uint64]holding{2: {code: coded(text)}}) }

// coded assembles a code.
func coded(text string) string {
	code, at, e := opcode.Assemble(text)
	if e != api.OK {
		panic(fmt.Sprintf("%q is no code: %d at %d", text, e, at))
	}
	return string(code)
}

// calling is the text of a call: its own gas is 44, with those of its four words.
func calling(to, value, input, gas uint64) string {
	return fmt.Sprintf("push %d push %d push %d push %d call ", to, value, input, gas)
}

// times is a text so many times, one behind the other.
func times(n int, text string) string { return strings.Repeat(text+" ", n) }

// fullOf lays a world into a source that has everything.
func fullOf(w world) *state.Full {
	f := state.NewFull()
	all := maps.Clone(w.accounts)
	for at, value := range w.slots {
		x, _ := f.Storage(at.address, api.Digest{})
		if value != 0 {
			x.Put(words.Key(at.slot), accounts.Value(value))
		}
		all[at.address] = w.accounts[at.address]
	}
	for address, h := range all {
		x, _ := f.Storage(address, api.Digest{})
		a := api.Account{Nonce: h.nonce, Balance: h.balance, Code: f.Learn([]byte(h.code)), Storage: x.Root()}
		if !accounts.Is(a) {
			f.Accounts().Put(words.Key(address), accounts.Encode(a))
		}
	}
	return f
}

// recording is a source of recorders, all of which it keeps, and of codes, which it keeps too.
type recording struct {
	f     *state.Full
	all   []*recorder.Recorder
	codes [][]byte
}

func (r *recording) record(x *trie.Trie) *recorder.Recorder {
	r.all = append(r.all, recorder.New(x))
	return r.all[len(r.all)-1]
}

func (r *recording) Accounts() *recorder.Recorder { return r.record(r.f.Accounts()) }

func (r *recording) Storage(address uint64, root api.Digest) (*recorder.Recorder, api.Errno) {
	x, e := r.f.Storage(address, root)
	return r.record(x), e
}

func (r *recording) Code(d api.Digest) ([]byte, api.Errno) {
	code, e := r.f.Code(d)
	r.codes = append(r.codes, code)
	return code, e
}

// notes are all nodes that were touched.
func (r *recording) notes() [][]byte {
	var l [][]byte
	for _, x := range r.all {
		l = append(l, x.Notes()...)
	}
	return l
}

// told is a source that knows nothing but a root, some nodes and some codes.
type told struct {
	root  api.Digest
	nodes [][]byte
	f     *state.Full // knows the codes alone
}

func newTold(root api.Digest, nodes, codes [][]byte) told {
	x := told{root, nodes, state.NewFull()}
	for _, code := range codes {
		x.f.Learn(code)
	}
	return x
}

func (x told) Accounts() *partial.Partial { return partial.New(x.root, x.nodes) }

func (x told) Storage(address uint64, root api.Digest) (*partial.Partial, api.Errno) {
	return partial.New(root, x.nodes), api.OK
}

func (x told) Code(d api.Digest) ([]byte, api.Errno) { return x.f.Code(d) }

// machine is a state over whatever trie, with the calls of this layer.
type machine interface {
	check(t api.Tx) api.Errno
	tx(t api.Tx, number, beneficiary uint64) (api.Receipt, api.Errno)
	Get(address uint64) (api.Account, api.Errno)
	Set(address, nonce, balance uint64) api.Errno
	Slot(address, slot uint64) (uint64, api.Errno)
	SetSlot(address, slot, value uint64) api.Errno
	Code(address uint64) ([]byte, api.Errno)
	SetCode(address uint64, code []byte) api.Errno
	Codes() [][]byte
	Mark() int
	Back(mark int) bool
	Touched() int
	Commit() (api.Digest, api.Errno)
}

type on[T state.Tree] struct{ *state.State[T] }

func (o on[T]) check(t api.Tx) api.Errno { return apply.Check(o.State, t) }

func (o on[T]) tx(t api.Tx, number, beneficiary uint64) (api.Receipt, api.Errno) {
	return apply.Tx(o.State, t, number, beneficiary)
}

func over[T state.Tree](from state.Source[T]) machine { return on[T]{state.New(from)} }

const ownTree = "an own tree"

// overEach are states on top of a world, of each kind of trie.
func overEach(w world) map[string]machine {
	f := fullOf(w)
	return map[string]machine{
		"a trie":         over[*trie.Trie](fullOf(w)),
		"a recorder":     over[*recorder.Recorder](&recording{f: f}),
		"a partial trie": over[*partial.Partial](newTold(f.Accounts().Root(), f.Texts(), f.Texts())),
		ownTree:          over[*tree](ownOf(w)),
	}
}

// onEach does a thing on states of each kind, beside a plain one.
func onEach(t *testing.T, what string, w world, do func(b both)) {
	t.Helper()
	for kind, s := range overEach(w) {
		do(both{t, s, newPlain(w), what + ", over " + kind})
	}
}

// ends asks for a transaction's receipt, and what some addresses have then, over each kind of trie.
func ends(t *testing.T, what string, w world, x api.Tx, beneficiary uint64, want api.Receipt, balances map[uint64]uint64) {
	t.Helper()
	onEach(t, what, w, func(b both) {
		t.Helper()
		if r, e := b.tx(x, 77, beneficiary); r != want || e != api.OK {
			t.Errorf("P17.2: %s: %+v, %d, not %+v", b.what, r, e, want)
		}
		for address, balance := range balances {
			if a, e := b.s.Get(address); a.Balance != balance || e != api.OK {
				t.Errorf("P17.2: %s: then %d has %d, not %d", b.what, address, a.Balance, balance)
			}
		}
		b.commit()
	})
}

// paying is a transaction of 1 to 2, at a price of 2.
func paying(gas, value uint64) api.Tx {
	return api.Tx{From: 1, Gas: gas, Price: 2, To: 2, Value: value}
}

// making is a transaction of 1 that makes code, at a price of 2.
func making(gas, value uint64, code string) api.Tx {
	return api.Tx{From: 1, Gas: gas, Price: 2, Value: value, Make: true, Code: []byte(code)}
}

// dice tells numbers out of a seed, the same ones each time.
type dice struct{ n uint64 }

func (d *dice) below(n int) int {
	d.n = d.n*6364136223846793005 + 1442695040888963407
	return int(d.n>>33) % n
}

func oneOf[V any](d *dice, l ...V) V { return l[d.below(len(l))] }
