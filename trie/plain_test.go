package trie_test

import (
	"bytes"
	"encoding/hex"
	"fmt"
	"maps"
	"slices"
	"strings"
	"testing"

	"pergola/api"
	"pergola/digest"
	"pergola/node"
	"pergola/trie"
)

// plain is the chapter worked out plainly: keys and their values; the nodes are worked out of all of them anew each time they are asked for.
type plain map[string]string

func (p plain) put(key, value string) api.Errno {
	switch {
	case len(key) > 32:
		return 70
	case len(value) == 0 || len(value) > 256:
		return 71
	}
	p[key] = value
	return 0
}

func (p plain) delete(key string) (bool, api.Errno) {
	if len(key) > 32 {
		return false, 70
	}
	_, had := p[key]
	delete(p, key)
	return had, 0
}

func (p plain) keys() []string { return slices.Sorted(maps.Keys(p)) }

// left is a key's value, and what is left of the key, in hexadecimal digits.
type left struct{ digits, value string }

// plainNodes reads P7.2; named has the encodings that are named by digests.
type plainNodes struct{ named []string }

func (w *plainNodes) encode(l []left) []byte {
	if len(l) == 1 {
		return encoded(api.Node{Kind: api.Leaf, Path: pathOf(l[0].digits), Value: []byte(l[0].value)})
	}
	if same := beginning(l); same != "" {
		return encoded(api.Node{Kind: api.Ext, Path: pathOf(same), Child: w.refer(behind(l, same))})
	}
	n := api.Node{Kind: api.Branch}
	for _, digit := range strings.Split("0123456789abcdef", "") {
		n.Kids = append(n.Kids, w.refer(behind(l, digit)))
	}
	for _, x := range l {
		if x.digits == "" {
			n.Value = []byte(x.value)
		}
	}
	return encoded(n)
}

func (w *plainNodes) refer(l []left) api.Ref {
	if len(l) == 0 {
		return api.Ref{}
	}
	b := w.encode(l)
	r := node.Refer(b)
	if r.Kind == api.RefDigest {
		w.named = append(w.named, string(b))
	}
	return r
}

func encoded(n api.Node) []byte {
	b, e := node.Encode(n)
	if e != api.OK {
		panic(fmt.Sprintf("no node: %+v", n))
	}
	return b
}

func pathOf(digits string) []byte {
	var p []byte
	for _, c := range digits {
		p = append(p, byte(strings.IndexRune("0123456789abcdef", c)))
	}
	return p
}

// beginning is what all of them begin with.
func beginning(l []left) string {
	same := l[0].digits
	for _, x := range l {
		for !strings.HasPrefix(x.digits, same) {
			same = same[:len(same)-1]
		}
	}
	return same
}

// behind are those that begin with some digits, without these.
func behind(l []left, digits string) []left {
	var some []left
	for _, x := range l {
		if rest, ok := strings.CutPrefix(x.digits, digits); ok {
			some = append(some, left{rest, x.value})
		}
	}
	return some
}

// nodes reads P7.3: the root, and the encodings.
func (p plain) nodes() (api.Digest, []string) {
	if len(p) == 0 {
		return digest.Of([]byte{0x80}), nil
	}
	var l []left
	for key, value := range p {
		l = append(l, left{hex.EncodeToString([]byte(key)), value})
	}
	var w plainNodes
	top := w.encode(l)
	all := append(w.named, string(top))
	slices.Sort(all)
	return digest.Of(top), slices.Compact(all)
}

// alike asks the trie all that can be asked, of other keys too, and holds it against the plain one.
func alike(t *testing.T, x *trie.Trie, p plain, others ...string) {
	t.Helper()
	root, nodes := p.nodes()
	if got := x.Root(); got != root {
		t.Fatalf("P7.3: Root of %q = %x, not %x", p, got, root)
	}
	if got := texts(x.Nodes()); !slices.Equal(got, nodes) {
		t.Fatalf("P7.3: Nodes of %q = %x, not %x", p, got, nodes)
	}
	if got, want := told(x), toldOf(p); !slices.Equal(got, want) {
		t.Fatalf("P7.4: All of %q = %q, not %q", p, got, want)
	}
	if got := x.Len(); got != len(p) {
		t.Fatalf("P7.4: Len of %q = %d", p, got)
	}
	for _, key := range slices.Concat(p.keys(), others) {
		value, has := p[key]
		if v, is, e := x.Get([]byte(key)); string(v) != value || is != has || e != api.OK {
			t.Fatalf("P7.1: Get(%q) of %q = %q, %v, %d", key, p, v, is, e)
		}
	}
	normal(t, x, p)
}

func texts(l [][]byte) []string {
	var some []string
	for _, b := range l {
		some = append(some, string(b))
	}
	return some
}

// told are the keys and values that All tells, one behind the other.
func told(x *trie.Trie) []string {
	var l []string
	for key, value := range x.All() {
		l = append(l, string(key), string(value))
	}
	return l
}

func toldOf(p plain) []string {
	var l []string
	for _, key := range p.keys() {
		l = append(l, key, p[key])
	}
	return l
}

// walker reads P7.7: it goes from the root on, by the nodes alone.
type walker struct {
	t     *testing.T
	nodes map[api.Digest][]byte
	used  map[api.Digest]bool
	found plain
}

func normal(t *testing.T, x *trie.Trie, p plain) {
	t.Helper()
	w := &walker{t, map[api.Digest][]byte{}, map[api.Digest]bool{}, plain{}}
	all := x.Nodes()
	for _, b := range all {
		w.nodes[digest.Of(b)] = b
	}
	if root := x.Root(); root != node.EmptyRoot() {
		w.used[root] = true
		w.walk(w.nodes[root], "")
	}
	if len(w.used) != len(all) {
		t.Fatalf("P7.3: Nodes of %q has %d, of which %d hang on the root", p, len(all), len(w.used))
	}
	if !maps.Equal(w.found, p) {
		t.Fatalf("P7.7: by Root and Nodes the keys and values are %q, not %q", w.found, p)
	}
}

// walk goes through the node b, to which these nibbles lead, and tells its kind.
func (w *walker) walk(b []byte, lead string) int {
	w.t.Helper()
	n, e := node.Decode(b)
	if e != api.OK {
		w.t.Fatalf("P7.7: Decode(%x): %d", b, e)
	}
	lead += string(n.Path)
	if len(n.Value) > 0 {
		w.found[keyOf(lead)] = string(n.Value)
	}
	if n.Kind == api.Ext && w.follow(n.Child, lead) != api.Branch {
		w.t.Fatalf("P7.7: the child of %x is no branch", b)
	}
	for i, r := range n.Kids {
		w.follow(r, lead+string(rune(i)))
	}
	return n.Kind
}

func (w *walker) follow(r api.Ref, lead string) int {
	w.t.Helper()
	switch r.Kind {
	case api.RefInline:
		return w.walk(r.Inline, lead)
	case api.RefDigest:
		b := w.nodes[r.Digest]
		if len(b) < 32 {
			w.t.Fatalf("P7.7: a digest names %x", b)
		}
		w.used[r.Digest] = true
		return w.walk(b, lead)
	}
	return 0
}

func keyOf(path string) string {
	if len(path)%2 != 0 {
		panic("half a byte")
	}
	var key []byte
	for i := 0; i < len(path); i += 2 {
		key = append(key, path[i]*16+path[i+1])
	}
	return string(key)
}

// step is a call: a Put, or, of no value, a Delete.
type step struct{ key, value string }

func (s step) String() string {
	if s.value == "" {
		return fmt.Sprintf("Delete(%q)", s.key)
	}
	return fmt.Sprintf("Put(%q, %q)", s.key, s.value)
}

// do calls the trie and the plain one alike, and holds their answers against each other.
func do(t *testing.T, x *trie.Trie, p plain, s step) {
	t.Helper()
	if s.value == "" {
		had, e := x.Delete([]byte(s.key))
		if wantHad, wantE := p.delete(s.key); had != wantHad || e != wantE {
			t.Fatalf("P7.1: %v = %v, %d, not %v, %d", s, had, e, wantHad, wantE)
		}
		return
	}
	e := x.Put([]byte(s.key), []byte(s.value))
	if want := p.put(s.key, s.value); e != want {
		t.Fatalf("P7.1: %v = %d, not %d", s, e, want)
	}
}

// made is a trie, and a plain one, behind some steps.
func made(t *testing.T, l ...step) (*trie.Trie, plain) {
	t.Helper()
	x, p := trie.New(), plain{}
	for _, s := range l {
		do(t, x, p, s)
	}
	return x, p
}

// same asks that two tries answer alike.
func same(t *testing.T, why string, x, y *trie.Trie) {
	t.Helper()
	if x.Root() != y.Root() || !slices.EqualFunc(x.Nodes(), y.Nodes(), bytes.Equal) || !slices.Equal(told(x), told(y)) || x.Len() != y.Len() {
		t.Fatalf("%s: %q and %q", why, told(x), told(y))
	}
}
