package state_test

import (
	"bytes"
	"fmt"
	"slices"

	"pergola/accounts"
	"pergola/api"
	"pergola/digest"
	"pergola/node"
	"pergola/partial"
	"pergola/recorder"
	"pergola/state"
	"pergola/trie"
	"pergola/words"
)

const m = 1<<64 - 1

// edges are words at each edge; the first ones are few, and near each other as keys.
func edges() []uint64 {
	return []uint64{0, 1, 2, 16, 255, 256, 1 << 32, 1 << 63, m - 1, m}
}

// someCodes: of no bytes, of one, of two that begin alike, of MaxCode.
func someCodes() []string {
	return []string{"", "\x00", "\x80", "ab", "abc", string(bytes.Repeat([]byte{7}, api.MaxCode-1)), string(bytes.Repeat([]byte{7}, api.MaxCode))}
}

// longCodes are none that a state takes.
func longCodes() []string {
	return []string{string(bytes.Repeat([]byte{7}, api.MaxCode+1)), string(make([]byte, 1000))}
}

func name(code string) api.Digest { return digest.Of([]byte(code)) }

// machine is a state over whatever trie.
type machine interface {
	Get(address uint64) (api.Account, api.Errno)
	Set(address, nonce, balance uint64) api.Errno
	Slot(address, slot uint64) (uint64, api.Errno)
	SetSlot(address, slot, value uint64) api.Errno
	Code(address uint64) ([]byte, api.Errno)
	SetCode(address uint64, code []byte) api.Errno
	Codes() [][]byte
	Mark() int
	Back(mark int) bool
	Touched() int
	Commit() (api.Digest, api.Errno)
}

// someWorlds are what there may be at a state's beginning.
func someWorlds() map[string]world {
	empty := newWorld()
	one := newWorld()
	one.accounts[1] = api.Account{Nonce: 3, Balance: 5, Code: node.EmptyCode(), Storage: node.EmptyRoot()}
	many := newWorld()
	for i, address := range edges() {
		a := api.Account{Nonce: uint64(i), Balance: m - uint64(i), Code: name(someCodes()[i%7]), Storage: node.EmptyRoot()}
		for k := range i % 4 {
			many.slots[place{address, edges()[k*3]}] = edges()[1+(i+k)%9]
		}
		many.accounts[address] = a
	}
	many.sealed()
	// An account of which nothing but its storage, or its code, is other than the empty one's.
	lean := newWorld()
	lean.slots[place{0, 0}], lean.slots[place{0, m}], lean.slots[place{m, 7}] = 1, m, 256
	lean.accounts[2] = api.Account{Code: name("ab"), Storage: node.EmptyRoot()}
	lean.sealed()
	return map[string]world{"nothing": empty, "one account": one, "many": many, "storage alone": lean}
}

// fullOf lays a world into a full source, without a state. It knows all someCodes but the last one.
func fullOf(w world) *state.Full {
	f := state.NewFull()
	for p, value := range w.slots {
		x, _ := f.Storage(p.address, api.Digest{})
		x.Put(words.Key(p.slot), words.Bytes(value))
	}
	for address, a := range w.accounts {
		if !accounts.Is(a) {
			f.Accounts().Put(words.Key(address), accounts.Encode(a))
		}
	}
	for _, code := range someCodes()[:6] {
		f.Learn([]byte(code))
	}
	return f
}

// recording is a source of recorders, all of which it keeps.
type recording struct {
	f   *state.Full
	all []*recorder.Recorder
}

func (r *recording) record(x *trie.Trie) *recorder.Recorder {
	r.all = append(r.all, recorder.New(x))
	return r.all[len(r.all)-1]
}

func (r *recording) Accounts() *recorder.Recorder { return r.record(r.f.Accounts()) }

func (r *recording) Storage(address uint64, root api.Digest) (*recorder.Recorder, api.Errno) {
	x, e := r.f.Storage(address, root)
	return r.record(x), e
}

func (r *recording) Code(d api.Digest) ([]byte, api.Errno) { return r.f.Code(d) }

// told is a source of tries of which all nodes are known, and nothing but their roots.
type told struct {
	root  api.Digest
	nodes [][]byte
	f     *state.Full
}

func (x told) Accounts() *partial.Partial { return partial.New(x.root, x.nodes) }

func (x told) Storage(address uint64, root api.Digest) (*partial.Partial, api.Errno) {
	return partial.New(root, x.nodes), api.OK
}

func (x told) Code(d api.Digest) ([]byte, api.Errno) { return x.f.Code(d) }

// overEach are states on top of a world, of each kind of trie.
func overEach(w world) map[string]machine {
	f := fullOf(w)
	return map[string]machine{
		"a trie":         state.Open(fullOf(w)),
		"New of a trie":  state.New[*trie.Trie](fullOf(w)),
		"a recorder":     state.New[*recorder.Recorder](&recording{f: f}),
		"a partial trie": state.New[*partial.Partial](told{f.Accounts().Root(), f.Texts(), f}),
		"an own tree":    state.New[*tree](ownOf(w)),
	}
}

// next goes round all numbers, in an order that is no simple one.
func next(n uint32) uint32 { return n*1664525 + 1013904223 }

// dice tells numbers out of a seed.
type dice struct{ n uint32 }

func (d *dice) below(n int) int {
	d.n = next(d.n)
	return int(d.n>>10) % n
}

func (d *dice) word(l []uint64) uint64 { return l[d.below(len(l))] }

// texts are byte strings as texts.
func texts(l [][]byte) []string {
	var some []string
	for _, b := range l {
		some = append(some, string(b))
	}
	return some
}

// rises tells whether each text is behind the one ahead of it.
func rises(l []string) bool {
	for i := 1; i < len(l); i++ {
		if l[i-1] >= l[i] {
			return false
		}
	}
	return true
}

// ordersOf are all orders of some things.
func ordersOf[V any](l []V) [][]V {
	if len(l) == 0 {
		return [][]V{nil}
	}
	var all [][]V
	for i, x := range l {
		for _, rest := range ordersOf(slices.Delete(slices.Clone(l), i, i+1)) {
			all = append(all, append([]V{x}, rest...))
		}
	}
	return all
}

func short(code string) string {
	if len(code) > 8 {
		return fmt.Sprintf("%d bytes", len(code))
	}
	return fmt.Sprintf("%q", code)
}
