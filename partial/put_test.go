package partial_test

import (
	"encoding/hex"
	"slices"
	"testing"

	"pergola/api"
	"pergola/node"
)

// keyOf is the key of some digits.
func keyOf(digits string) string {
	b, err := hex.DecodeString(digits)
	if err != nil {
		panic(err)
	}
	return string(b)
}

// setting is where a node stands: at the top, or below others, to which the digits 61 lead.
type setting struct {
	name   string
	digits string
	above  func(n api.Ref) []api.Node // nodes above one that is named so, the topmost one first
	anew   func(n api.Node) api.Node  // the topmost node, when the node there, and all above it, was made anew
	child  bool                       // it stands below an extension
}

func settings() []setting {
	short := leaf("1", "\x05")
	return []setting{
		{"at the top", "", func(n api.Ref) []api.Node { return nil }, func(n api.Node) api.Node { return n }, false},
		{"below an extension", "61", func(n api.Ref) []api.Node { return []api.Node{ext("61", n)} }, func(n api.Node) api.Node {
			if n.Kind == api.Branch {
				return ext("61", named(n))
			}
			n.Path = slices.Concat(pathOf("61"), n.Path)
			return n
		}, true},
		{"below branches", "61", func(n api.Ref) []api.Node {
			lower := branch("", kids{"1": n, "2": away(), "3": byDigest(short)})
			return []api.Node{branch(other, kids{"6": byDigest(lower), "7": byDigest(short)}), lower}
		}, func(n api.Node) api.Node {
			lower := branch("", kids{"1": named(n), "2": away(), "3": byDigest(short)})
			return branch(other, kids{"6": named(lower), "7": byDigest(short)})
		}, false},
		{"below a branch with a value, and an extension", "61", func(n api.Ref) []api.Node {
			return []api.Node{branch("\x05", kids{"6": byDigest(ext("1", n))}), ext("1", n)}
		}, func(n api.Node) api.Node {
			if n.Kind == api.Branch {
				n = ext("1", named(n))
			} else {
				n.Path = slices.Concat(pathOf("1"), n.Path)
			}
			return branch("\x05", kids{"6": named(n)})
		}, true},
	}
}

// in lays a node, named by its digest, into a setting.
func (s setting) in(t *testing.T, n api.Node, more ...api.Node) (both, [][]byte) {
	t.Helper()
	nodes := texted(append(s.above(byDigest(n)), n)...)
	top, _ := node.Decode(nodes[0])
	return begin(t, rootOf(top), append(texted(more...), nodes...)), nodes
}

// shape is a node into which a key is put, and what stands in its place then.
type shape struct {
	n      api.Node
	digits string
	want   api.Node
}

// leafShapes: at a leaf the path of which is just what is left, or goes otherwise: at once, within it, at its end; at the key's end.
func leafShapes(v string) []shape {
	n, odd, none := leaf("6162", other), leaf("6", other), leaf("", other)
	return []shape{
		{n, "6162", leaf("6162", v)},
		{n, "", branch(v, kids{"6": named(leaf("162", other))})},
		{n, "71", branch("", kids{"6": named(leaf("162", other)), "7": named(leaf("1", v))})},
		{n, "61", ext("61", named(branch(v, kids{"6": named(leaf("2", other))})))},
		{n, "6172", ext("61", named(branch("", kids{"6": named(leaf("2", other)), "7": named(leaf("2", v))})))},
		{n, "6163", ext("616", named(branch("", kids{"2": named(leaf("", other)), "3": named(leaf("", v))})))},
		{n, "616263", ext("6162", named(branch(other, kids{"6": named(leaf("3", v))})))},
		{odd, "", branch(v, kids{"6": named(leaf("", other))})},
		{odd, "61", ext("6", named(branch(other, kids{"1": named(leaf("", v))})))},
		{odd, "71", branch("", kids{"6": named(leaf("", other)), "7": named(leaf("1", v))})},
		{none, "", leaf("", v)},
		{none, "61", branch(other, kids{"6": named(leaf("1", v))})},
	}
}

// extShapes: at an extension the path of which goes otherwise. Its child is not asked for, whatever it is.
func extShapes(v string) []shape {
	var l []shape
	for _, child := range []api.Ref{away(), named(twig("\x05", "3")), byDigest(twig("\x05", "3"))} {
		n := ext("6162", child)
		l = append(l,
			shape{n, "", branch(v, kids{"6": named(ext("162", child))})},
			shape{n, "71", branch("", kids{"6": named(ext("162", child)), "7": named(leaf("1", v))})},
			shape{n, "61", ext("61", named(branch(v, kids{"6": named(ext("2", child))})))},
			shape{n, "6163", ext("616", named(branch("", kids{"2": child, "3": named(leaf("", v))})))},
			shape{n, "6173", ext("61", named(branch("", kids{"6": named(ext("2", child)), "7": named(leaf("3", v))})))},
			shape{ext("616", child), "61", ext("61", named(branch(v, kids{"6": child})))},
			shape{ext("6", child), "", branch(v, kids{"6": child})},
			shape{ext("6", child), "7162", branch("", kids{"6": child, "7": named(leaf("162", v))})},
		)
	}
	return l
}

// branchShapes: at a branch of which nothing is left, or that has no such kid.
func branchShapes(v string) []shape {
	short := byDigest(leaf("1", "\x05"))
	return []shape{
		{branch(other, kids{"6": away(), "7": short}), "", branch(v, kids{"6": away(), "7": short})},
		{branch("", kids{"6": away(), "7": short}), "", branch(v, kids{"6": away(), "7": short})},
		{branch(other, kids{"6": away(), "7": short}), "81", branch(other, kids{"6": away(), "7": short, "8": named(leaf("1", v))})},
		{branch("", kids{"6": away(), "7": short}), "0162", branch("", kids{"0": named(leaf("162", v)), "6": away(), "7": short})},
		{branch("", kids{"6": away(), "7": short}), "ff", branch("", kids{"6": away(), "7": short, "f": named(leaf("f", v))})},
		{twig("\x05", "36"), "", twig(v, "36")},
	}
}

func TestP103EachEndOfAWay(t *testing.T) {
	for _, v := range []string{"\x09", long, most} {
		for _, k := range slices.Concat(leafShapes(v), extShapes(v), branchShapes(v)) {
			for _, s := range settings() {
				if s.child && k.n.Kind != api.Branch {
					continue
				}
				b, nodes := s.in(t, k.n)
				b.says(put(keyOf(s.digits+k.digits), v), answer{})
				b.stands(s.anew(k.want))
				b.uses(nodes...)
				b.says(get(keyOf(s.digits+k.digits)), answer{v, true, api.OK})
			}
		}
	}
}

// Where there is nothing: at the top, and in a branch that a Put has made.
func TestP103WhereThereIsNothing(t *testing.T) {
	for _, v := range []string{"\x09", long} {
		for _, digits := range []string{"", "61", "6162"} {
			b := begin(t, node.EmptyRoot(), texted(leaf("61", other)))
			b.says(put(keyOf(digits), v), answer{})
			b.stands(leaf(digits, v))
			b.uses()
		}
		b := begin(t, node.EmptyRoot(), nil)
		b.says(put("a", v), answer{})
		b.says(put("q", v), answer{})
		b.says(put("\x81", v), answer{})
		b.stands(branch("", kids{"6": named(leaf("1", v)), "7": named(leaf("1", v)), "8": named(leaf("1", v))}))
	}
}

// Nodes on the way are made anew also where the value is the one that the key has: a short one stands inline then. Beside the way each keeps its name.
func TestP103SameValueAgain(t *testing.T) {
	child, aside := twig("\x05", "36"), leaf("1", "\x06")
	top := branch("", kids{"6": byDigest(child), "7": byDigest(aside)})
	b := begin(t, rootOf(top), texted(top, child, aside))
	b.says(get("q"), answer{"\x06", true, api.OK})
	b.says(get("\x63"), answer{"\x05", true, api.OK})
	b.stands(top)
	b.says(put("\x63", "\x05"), answer{})
	b.stands(branch("", kids{"6": named(child), "7": byDigest(aside)}))
	b.says(put("q", "\x06"), answer{})
	b.stands(branch("", kids{"6": named(child), "7": named(aside)}))
	b.uses(texted(top, child, aside)...)
}

// A topmost node that is short is named by its digest all the same, found or made.
func TestP101ShortTop(t *testing.T) {
	b := begin(t, rootOf(twig("\x05", "36")), texted(twig("\x05", "36")))
	b.stands(twig("\x05", "36"))
	b.says(get("\x36"), answer{})
	b.stands(twig("\x05", "36"))
	b.says(put("", "\x05"), answer{})
	b.stands(twig("\x05", "36"))
}

func TestP103StubsThatCanNotBeHad(t *testing.T) {
	for _, s := range settings() {
		n := branch(other, kids{"6": away(), "7": textBy([]byte{0xc0}), "8": byDigest(leaf("1", long))})
		for i := range s.above(away()) {
			b, nodes := s.in(t, n)
			b = begin(t, b.p.Root(), slices.Delete(slices.Clone(nodes), i, i+1))
			b.refused(put(keyOf(s.digits), long))
			b.uses(nodes[:i]...)
		}
		b, nodes := s.in(t, n)
		root := b.p.Root()
		b.refused(put(keyOf(s.digits+"61"), long))
		b.refused(put(keyOf(s.digits+"61"), long))
		b.refused(put(keyOf(s.digits+"71"), long))
		b.refused(put(keyOf(s.digits+"81"), long))
		b.uses(nodes...)
		if b.p.Root() != root {
			t.Fatalf("P10.5: %s: a Put that is refused has changed the root", s.name)
		}
		// A call that is answered leaves the stubs beside its way where they are.
		b.says(put(keyOf(s.digits+"91"), long), answer{})
		b.refused(get(keyOf(s.digits + "61")))
		b.refused(put(keyOf(s.digits+"71"), long))
		b.says(get(keyOf(s.digits+"91")), answer{long, true, api.OK})
	}
}
