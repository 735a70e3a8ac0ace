package partial_test

import (
	"encoding/hex"
	"fmt"
	"maps"
	"slices"
	"strings"
	"testing"

	"pergola/api"
	"pergola/digest"
	"pergola/node"
	"pergola/partial"
)

// spot is a thing of the tree as the chapter has it: a stub (of no kind), or a node. It is written over in its place.
type spot struct {
	kind  int
	name  api.Ref // by which its parent had it; of no kind, if it was made
	path  string  // in hexadecimal digits
	value string
	child *spot
	kids  [16]*spot // nil: there is none
}

// plain reads the chapter: a node that was found stands in the place of its stub from then on.
type plain struct {
	nodes   []string
	digests []api.Digest // of the nodes
	top     *spot
	used    map[string]bool
}

const hexDigits = "0123456789abcdef"

func digitsOf(key string) string { return hex.EncodeToString([]byte(key)) }

func pathOf(digits string) []byte {
	var p []byte
	for _, c := range digits {
		p = append(p, byte(strings.IndexRune(hexDigits, c)))
	}
	return p
}

func pathDigits(path []byte) string {
	text := ""
	for _, n := range path {
		text += hexDigits[n : n+1]
	}
	return text
}

func number(digits string) int { return strings.Index(hexDigits, digits[:1]) }

func newPlain(root api.Digest, nodes [][]byte) *plain {
	m := &plain{nodes: texts(nodes), used: map[string]bool{}}
	for _, b := range nodes {
		m.digests = append(m.digests, digest.Of(b))
	}
	if root != digest.Of([]byte{0x80}) {
		m.top = &spot{name: api.Ref{Kind: api.RefDigest, Digest: root}}
	}
	return m
}

// look lays the node of a stub into its place.
func (m *plain) look(s *spot, lead int, child bool) bool {
	if s.kind != 0 {
		return true
	}
	for i, text := range m.nodes {
		if m.digests[i] != s.name.Digest {
			continue
		}
		n, e := node.Decode([]byte(text))
		if e != api.OK {
			continue
		}
		if child && n.Kind != api.Branch || deepest(n, lead) > 64 {
			return false
		}
		*s = *spotOf(s.name, n)
		m.used[text] = true
		return true
	}
	return false
}

// deepest is the number of nibbles of the longest path from the topmost node on, of a node and all that stand inline in it.
func deepest(n api.Node, lead int) int {
	most := lead + len(n.Path)
	inside := func(r api.Ref, lead int) {
		if r.Kind == api.RefInline {
			below, _ := node.Decode(r.Inline)
			most = max(most, deepest(below, lead))
		}
	}
	inside(n.Child, lead+len(n.Path))
	for _, r := range n.Kids {
		inside(r, lead+1)
	}
	return most
}

func spotOf(name api.Ref, n api.Node) *spot {
	s := &spot{kind: n.Kind, name: name, path: pathDigits(n.Path), value: string(n.Value), child: spotBy(n.Child)}
	for i, r := range n.Kids {
		s.kids[i] = spotBy(r)
	}
	return s
}

func spotBy(r api.Ref) *spot {
	switch r.Kind {
	case api.RefInline:
		n, _ := node.Decode(r.Inline)
		return spotOf(r, n)
	case api.RefDigest:
		return &spot{name: r}
	}
	return nil
}

// way has the nodes on a key's way, and what is left of the key at the last one.
type way struct {
	nodes []*spot
	rest  string
}

func (m *plain) walk(key string) (way, bool) {
	w := way{rest: digitsOf(key)}
	s, child := m.top, false
	for s != nil {
		if !m.look(s, 2*len(key)-len(w.rest), child) {
			return way{}, false
		}
		w.nodes = append(w.nodes, s)
		behind, on := strings.CutPrefix(w.rest, s.path)
		switch {
		case s.kind == api.Ext && on:
			s, w.rest, child = s.child, behind, true
		case s.kind == api.Branch && w.rest != "":
			kid := s.kids[number(w.rest)]
			if kid == nil {
				return w, true
			}
			s, w.rest, child = kid, w.rest[1:], false
		default:
			return w, true
		}
	}
	return w, true
}

// value is the one that the key of a way has.
func (w way) value() string {
	if len(w.nodes) == 0 {
		return ""
	}
	end := w.nodes[len(w.nodes)-1]
	if end.kind == api.Leaf && end.path == w.rest || end.kind == api.Branch && w.rest == "" {
		return end.value
	}
	return ""
}

func (m *plain) get(key string) (string, bool, api.Errno) {
	if len(key) > 32 {
		return "", false, 70
	}
	w, ok := m.walk(key)
	if !ok {
		return "", false, 2
	}
	return w.value(), w.value() != "", 0
}

func (m *plain) put(key, value string) api.Errno {
	switch {
	case len(key) > 32:
		return 70
	case len(value) == 0 || len(value) > 256:
		return 71
	}
	w, ok := m.walk(key)
	if !ok {
		return 2
	}
	if len(w.nodes) == 0 {
		m.top = &spot{kind: api.Leaf, path: w.rest, value: value}
		return 0
	}
	end := w.nodes[len(w.nodes)-1]
	switch {
	case end.kind == api.Branch || end.path == w.rest && end.kind == api.Leaf:
		end.lay(w.rest, value)
	default:
		end.part(w.rest, value)
	}
	for _, s := range w.nodes {
		s.name = api.Ref{}
	}
	return 0
}

// lay lays a value where rest is left of its key: a leaf's, a branch's, or a new leaf's in a branch.
func (s *spot) lay(rest, value string) {
	if s.kind == api.Branch && rest != "" {
		s.kids[number(rest)] = &spot{kind: api.Leaf, path: rest[1:], value: value}
	} else {
		s.value = value
	}
}

// part makes a branch, perhaps with an extension above it, of a leaf or an extension whose path goes otherwise than rest.
func (s *spot) part(rest, value string) {
	c := 0
	for c < len(rest) && c < len(s.path) && rest[c] == s.path[c] {
		c++
	}
	b := &spot{kind: api.Branch}
	old := s.path[c:]
	switch {
	case s.kind == api.Leaf:
		b.lay(old, s.value)
	case len(old) == 1:
		b.kids[number(old)] = s.child
	default:
		b.kids[number(old)] = &spot{kind: api.Ext, path: old[1:], child: s.child}
	}
	b.lay(rest[c:], value)
	if c > 0 {
		b = &spot{kind: api.Ext, path: rest[:c], child: b}
	}
	*s = *b
}

func (m *plain) delete(key string) (bool, api.Errno) {
	if len(key) > 32 {
		return false, 70
	}
	w, ok := m.walk(key)
	if !ok {
		return false, 2
	}
	if w.value() == "" {
		return false, 0
	}
	// What goes is taken out of a copy of the last branch: only where its last kid can be had is the tree itself changed.
	last := len(w.nodes) - 1
	end, lead := w.nodes[last], 2*len(key)-len(w.rest)
	if end.kind == api.Leaf && last == 0 {
		m.top = nil
		return true, 0
	}
	less := *end
	less.value = ""
	if end.kind == api.Leaf {
		last, lead = last-1, lead-1
		end = w.nodes[last]
		less = *end
		less.kids[slices.Index(end.kids[:], w.nodes[last+1])] = nil
	}
	if !m.settle(&less, lead) {
		return false, 2
	}
	*end = less
	for i := last; i >= 0; i-- {
		s := w.nodes[i]
		s.name = api.Ref{}
		if i < last && s.kind == api.Ext && s.child.kind != api.Branch {
			upper := s.path
			*s = *s.child
			s.path = upper + s.path
		}
	}
	return true, 0
}

// settle brings a branch that has lost something into the normal form.
func (m *plain) settle(b *spot, lead int) bool {
	var left []int
	for i, kid := range b.kids {
		if kid != nil {
			left = append(left, i)
		}
	}
	if len(left) == 0 {
		*b = spot{kind: api.Leaf, value: b.value}
	}
	if len(left) != 1 || b.value != "" {
		return true
	}
	kid, digit := b.kids[left[0]], hexDigits[left[0]:][:1]
	if !m.look(kid, lead+1, false) {
		return false
	}
	if kid.kind == api.Branch {
		*b = spot{kind: api.Ext, path: digit, child: kid}
	} else {
		*b = *kid
		b.name, b.path = api.Ref{}, digit+kid.path
	}
	return true
}

func (m *plain) root() api.Digest {
	switch {
	case m.top == nil:
		return digest.Of([]byte{0x80})
	case m.top.name.Kind != api.RefNone:
		return m.top.name.Digest
	}
	return digest.Of(m.top.encode())
}

func (s *spot) encode() []byte {
	n := api.Node{Kind: s.kind, Path: pathOf(s.path), Value: []byte(s.value), Child: s.child.refer()}
	if s.kind == api.Branch {
		for _, kid := range s.kids {
			n.Kids = append(n.Kids, kid.refer())
		}
	}
	return written(n)
}

func (s *spot) refer() api.Ref {
	switch {
	case s == nil:
		return api.Ref{}
	case s.name.Kind != api.RefNone:
		return s.name
	}
	return node.Refer(s.encode())
}

func (m *plain) usedTexts() []string { return slices.Sorted(maps.Keys(m.used)) }

func (m *plain) clone() *plain {
	return &plain{m.nodes, m.digests, m.top.clone(), maps.Clone(m.used)}
}

func (s *spot) clone() *spot {
	if s == nil {
		return nil
	}
	c := *s
	c.child = s.child.clone()
	for i, kid := range s.kids {
		c.kids[i] = kid.clone()
	}
	return &c
}

func texts(l [][]byte) []string {
	var some []string
	for _, b := range l {
		some = append(some, string(b))
	}
	return some
}

// call is one of Get, Put and Delete (g, p, d).
type call struct {
	what       byte
	key, value string
}

func get(key string) call        { return call{'g', key, ""} }
func put(key, value string) call { return call{'p', key, value} }
func del(key string) call        { return call{'d', key, ""} }

func (c call) String() string {
	switch c.what {
	case 'g':
		return fmt.Sprintf("Get(%q)", c.key)
	case 'p':
		return fmt.Sprintf("Put(%q, %q)", c.key, c.value)
	}
	return fmt.Sprintf("Delete(%q)", c.key)
}

// answer is what a call tells; a Put tells no value and no bool.
type answer struct {
	value string
	is    bool
	e     api.Errno
}

func (a answer) String() string { return fmt.Sprintf("%q, %v, %d", a.value, a.is, a.e) }

func (c call) of(x tree) answer {
	switch c.what {
	case 'g':
		v, is, e := x.Get([]byte(c.key))
		return answer{string(v), is, e}
	case 'p':
		return answer{e: x.Put([]byte(c.key), []byte(c.value))}
	}
	is, e := x.Delete([]byte(c.key))
	return answer{is: is, e: e}
}

func (c call) ofPlain(m *plain) answer {
	switch c.what {
	case 'g':
		v, is, e := m.get(c.key)
		return answer{v, is, e}
	case 'p':
		return answer{e: m.put(c.key, c.value)}
	}
	is, e := m.delete(c.key)
	return answer{is: is, e: e}
}

// tree is what a Partial and a trie both answer.
type tree interface {
	Get(key []byte) ([]byte, bool, api.Errno)
	Put(key, value []byte) api.Errno
	Delete(key []byte) (bool, api.Errno)
	Root() api.Digest
}

// both are a Partial and the plain one, which must answer alike.
type both struct {
	t *testing.T
	p *partial.Partial
	m *plain
}

func begin(t *testing.T, root api.Digest, nodes [][]byte) both {
	t.Helper()
	b := both{t, partial.New(root, nodes), newPlain(root, nodes)}
	b.same("New")
	return b
}

func (b both) clone() both { return both{b.t, b.p.Clone(), b.m.clone()} }

// same asks Root and Used.
func (b both) same(behind any) {
	b.t.Helper()
	if got, want := b.p.Root(), b.m.root(); got != want {
		b.t.Fatalf("P10.1: behind %v: Root = %x, not %x", behind, got, want)
	}
	if got, want := texts(b.p.Used()), b.m.usedTexts(); !slices.Equal(got, want) {
		b.t.Fatalf("P10.6: behind %v: Used = %x, not %x", behind, got, want)
	}
}

// do calls both, and tells what they answered.
func (b both) do(c call) answer {
	b.t.Helper()
	got, want := c.of(b.p), c.ofPlain(b.m)
	if got != want {
		b.t.Fatalf("P10.2, P10.3, P10.4: %v = %v, not %v", c, got, want)
	}
	b.same(c)
	return got
}

// says asks that a call answers just this.
func (b both) says(c call, want answer) {
	b.t.Helper()
	if got := b.do(c); got != want {
		b.t.Fatalf("%v = %v, not %v", c, got, want)
	}
}

func (b both) refused(c call) {
	b.t.Helper()
	b.says(c, answer{e: api.ErrWitness})
}

// stands asks that the topmost node is n, and so all that hangs on it.
func (b both) stands(n api.Node) {
	b.t.Helper()
	if got, want := b.p.Root(), digest.Of(written(n)); got != want {
		b.t.Fatalf("Root = %x, not %x, that of %x", got, want, written(n))
	}
}

// uses asks what Used tells.
func (b both) uses(nodes ...[]byte) {
	b.t.Helper()
	want := texts(nodes)
	slices.Sort(want)
	if got := texts(b.p.Used()); !slices.Equal(got, slices.Compact(want)) {
		b.t.Fatalf("P10.6: Used = %x, not %x", got, want)
	}
}
