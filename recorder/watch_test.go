package recorder_test

import (
	"fmt"
	"slices"
	"testing"

	"pergola/api"
	"pergola/partial"
	"pergola/recorder"
	"pergola/trie"
)

// call is one of Get, Put and Delete (g, p, d).
type call struct {
	what       byte
	key, value string
}

func get(key string) call        { return call{'g', key, ""} }
func put(key, value string) call { return call{'p', key, value} }
func del(key string) call        { return call{'d', key, ""} }

func (c call) String() string {
	switch c.what {
	case 'g':
		return fmt.Sprintf("Get(%q)", c.key)
	case 'p':
		return fmt.Sprintf("Put(%q, %q)", c.key, c.value)
	}
	return fmt.Sprintf("Delete(%q)", c.key)
}

// answer is what a call tells; a Put tells no value and no bool.
type answer struct {
	value string
	is    bool
	e     api.Errno
}

func (a answer) String() string { return fmt.Sprintf("%q, %v, %d", a.value, a.is, a.e) }

// tree is what a recorder, a trie and a partial one all answer.
type tree interface {
	Get(key []byte) ([]byte, bool, api.Errno)
	Put(key, value []byte) api.Errno
	Delete(key []byte) (bool, api.Errno)
	Root() api.Digest
}

func (c call) of(x tree) answer {
	switch c.what {
	case 'g':
		v, is, e := x.Get([]byte(c.key))
		return answer{string(v), is, e}
	case 'p':
		return answer{e: x.Put([]byte(c.key), []byte(c.value))}
	}
	is, e := x.Delete([]byte(c.key))
	return answer{is: is, e: e}
}

func texts(l [][]byte) []string {
	var some []string
	for _, b := range l {
		some = append(some, string(b))
	}
	return some
}

func subset(some, all []string) bool {
	for _, text := range some {
		if !slices.Contains(all, text) {
			return false
		}
	}
	return true
}

// noter is a recorder, or one that stands before it.
type noter interface {
	tree
	Notes() [][]byte
}

// watched is a recorder with all that it is held against.
type watched struct {
	t       *testing.T
	r       noter
	clone   *trie.Trie       // of the trie, made at New
	knows   *partial.Partial // of the trie's root and nodes, as they were at New
	m       *plain
	root    api.Digest // at New
	nodes   []string   // at New
	calls   []call
	answers []answer
}

// watch makes a recorder of a trie, which it must leave as it was.
func watch(t *testing.T, x *trie.Trie) *watched {
	t.Helper()
	return watchAs(t, x, func(x *trie.Trie) noter { return recorder.New(x) })
}

func watchAs(t *testing.T, x *trie.Trie, of func(x *trie.Trie) noter) *watched {
	t.Helper()
	w := &watched{t: t, clone: x.Clone(), knows: partial.New(x.Root(), x.Nodes()), m: newPlain(pairsOf(x)), root: x.Root(), nodes: texts(x.Nodes())}
	w.r = of(x)
	if x.Root() != w.root || !slices.Equal(texts(x.Nodes()), w.nodes) {
		t.Fatal("P11.1: New has changed the trie")
	}
	w.same("New")
	if len(w.r.Notes()) != 0 {
		t.Fatal("P11.2: Notes behind New")
	}
	return w
}

// same asks Root and Notes.
func (w *watched) same(behind any) []string {
	w.t.Helper()
	if got, want := w.r.Root(), w.clone.Root(); got != want {
		w.t.Fatalf("P11.1: behind %v: Root = %x, not %x", behind, got, want)
	}
	notes := texts(w.r.Notes())
	if want := texts(w.knows.Used()); !slices.Equal(notes, want) {
		w.t.Fatalf("P11.2: behind %v: Notes = %x; Used = %x", behind, notes, want)
	}
	if want := w.m.texts(); !slices.Equal(notes, want) {
		w.t.Fatalf("P11.2: behind %v: Notes = %x, not %x", behind, notes, want)
	}
	for i := 1; i < len(notes); i++ {
		if notes[i-1] >= notes[i] {
			w.t.Fatalf("P11.2: behind %v: Notes do not rise: %x", behind, notes)
		}
	}
	if !subset(notes, w.nodes) {
		w.t.Fatalf("P11.4: behind %v: Notes = %x, not all of which are among %x", behind, notes, w.nodes)
	}
	return notes
}

// do calls all, and tells what the recorder answered, as the clone did.
func (w *watched) do(c call) answer {
	w.t.Helper()
	before := texts(w.r.Notes())
	got, want := c.of(w.r), c.of(w.clone)
	if got != want {
		w.t.Fatalf("P11.1: %v = %v, not %v", c, got, want)
	}
	c.of(w.knows)
	w.m.do(c)
	w.calls, w.answers = append(w.calls, c), append(w.answers, got)
	notes := w.same(c)
	limit := 2*len(c.key) + 1
	if c.what == 'd' {
		limit++
	}
	if got.e != api.OK {
		limit = 0
	}
	if len(notes)-len(before) > limit || !subset(before, notes) {
		w.t.Fatalf("P11.4: behind %v: Notes = %x, not %x and at most %d more", c, notes, before, limit)
	}
	return got
}

// says asks that a call answers just this.
func (w *watched) says(c call, want answer) {
	w.t.Helper()
	if got := w.do(c); got != want {
		w.t.Fatalf("%v = %v, not %v", c, got, want)
	}
}

// notes asks that Notes are just these nodes.
func (w *watched) notes(what string, nodes ...api.Node) {
	w.t.Helper()
	var want []string
	for _, n := range nodes {
		want = append(want, string(written(n)))
	}
	slices.Sort(want)
	if got := texts(w.r.Notes()); !slices.Equal(got, want) {
		w.t.Fatalf("P11.2: %s: Notes = %x, not %x", what, got, want)
	}
}

// told are the answers of one who knows some nodes to the calls so far, up to the first ErrWitness.
func (w *watched) told(nodes [][]byte) []answer {
	var l []answer
	p := partial.New(w.root, nodes)
	for _, c := range w.calls {
		a := c.of(p)
		l = append(l, a)
		if a.e == api.ErrWitness {
			break
		}
	}
	return l
}

// enough asks that Notes are enough for all calls so far.
func (w *watched) enough() {
	w.t.Helper()
	if got := w.told(w.r.Notes()); !slices.Equal(got, w.answers) {
		w.t.Fatalf("P11.3: behind %v, by Notes: %v, not %v", w.calls, got, w.answers)
	}
}

// noMore asks that without any one of Notes a call so far is refused.
func (w *watched) noMore() {
	w.t.Helper()
	notes := w.r.Notes()
	for i := range notes {
		l := w.told(slices.Concat(notes[:i], notes[i+1:]))
		if len(l) == 0 || l[len(l)-1].e != api.ErrWitness {
			w.t.Fatalf("P11.2: behind %v: %x was not looked for", w.calls, notes[i])
		}
	}
}
