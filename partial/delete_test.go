package partial_test

import (
	"slices"
	"testing"

	"pergola/api"
	"pergola/digest"
	"pergola/node"
)

// loss is a branch that loses something, and what stands in its place then.
type loss struct {
	name   string
	n      api.Node
	digits string     // of the key that goes
	stubs  []api.Node // those below n that are named by digests, and asked for
	want   api.Node
}

// lastKid is a node that may be the last kid of a branch, and what takes the branch's place, by the kid's digit and name.
type lastKid struct {
	name string
	n    api.Node
	want func(digit string, name api.Ref) api.Node
}

func lastKids() []lastKid {
	small, rich := twig("\x05", "3"), branch(other, kids{"3": away(), "4": byDigest(leaf("", "\x05"))})
	asLeaf := func(path, value string) func(string, api.Ref) api.Node {
		return func(digit string, _ api.Ref) api.Node { return leaf(digit+path, value) }
	}
	asExt := func(path string, child api.Ref) func(string, api.Ref) api.Node {
		return func(digit string, _ api.Ref) api.Node { return ext(digit+path, child) }
	}
	// A branch is not made anew: also a short one keeps its name.
	asBranch := func(digit string, name api.Ref) api.Node { return ext(digit, name) }
	return []lastKid{
		{"a short leaf of no nibble", leaf("", "\x05"), asLeaf("", "\x05")},
		{"a short leaf", leaf("1", "\x05"), asLeaf("1", "\x05")},
		{"a leaf", leaf("162", other), asLeaf("162", other)},
		{"a short extension", ext("1", named(small)), asExt("1", named(small))},
		{"an extension of a stub", ext("162", away()), asExt("162", away())},
		{"an extension of a short branch", ext("162", byDigest(small)), asExt("162", byDigest(small))},
		{"a short branch", small, asBranch},
		{"a branch", rich, asBranch},
	}
}

// losses are branches that lose their value, a leaf that stands inline, or one that is found; what is left is the value, or one kid.
func losses() []loss {
	gone, short := leaf("1", long), leaf("1", "\x05")
	l := []loss{
		{"the value is left", branch(other, kids{"6": byDigest(gone)}), "61", []api.Node{gone}, leaf("", other)},
		{"the value is left, of a leaf inline", branch(other, kids{"6": named(short)}), "61", nil, leaf("", other)},
		{"a short value is left", branch("\x05", kids{"6": named(short)}), "61", nil, leaf("", "\x05")},
	}
	for _, k := range lastKids() {
		for _, digit := range []string{"0", "7", "f"} {
			name, want := byDigest(k.n), k.want(digit, byDigest(k.n))
			l = append(l,
				loss{k.name + " is left of a value", branch(long, kids{digit: name}), "", []api.Node{k.n}, want},
				loss{k.name + " is left of a leaf inline", branch("", kids{digit: name, "6": named(short)}), "61", []api.Node{k.n}, want},
				loss{k.name + " is left of a leaf", branch("", kids{digit: name, "6": byDigest(gone)}), "61", []api.Node{gone, k.n}, want})
			if len(written(k.n)) < 32 {
				l = append(l,
					loss{k.name + " inline is left of a value", branch(long, kids{digit: named(k.n)}), "", nil, k.want(digit, named(k.n))},
					loss{k.name + " inline is left of a leaf", branch("", kids{digit: named(k.n), "6": byDigest(gone)}), "61", []api.Node{gone}, k.want(digit, named(k.n))})
			}
		}
	}
	return l
}

func TestP104WhatABranchBecomes(t *testing.T) {
	for _, k := range losses() {
		for _, s := range settings() {
			b, nodes := s.in(t, k.n, k.stubs...)
			b.says(del(keyOf(s.digits+k.digits)), answer{is: true})
			b.stands(s.anew(k.want))
			b.uses(append(nodes, texted(k.stubs...)...)...)
			b.says(get(keyOf(s.digits+k.digits)), answer{})
			b.says(del(keyOf(s.digits+k.digits)), answer{})
			b.stands(s.anew(k.want))
		}
	}
}

// Without one of the nodes that it asks for a Delete is refused; those that were found on the way are found.
func TestP104P105StubsThatCanNotBeHad(t *testing.T) {
	for _, k := range losses() {
		for _, s := range settings() {
			whole, nodes := s.in(t, k.n, k.stubs...)
			root := whole.p.Root()
			nodes = append(nodes, texted(k.stubs...)...)
			for i := range nodes {
				b := begin(t, root, slices.Delete(slices.Clone(nodes), i, i+1))
				b.refused(del(keyOf(s.digits + k.digits)))
				b.uses(nodes[:i]...)
				if b.p.Root() != root {
					t.Fatalf("P10.5: %s, %s: a Delete that is refused has changed the root", s.name, k.name)
				}
			}
		}
	}
}

// A Delete that leaves more than one thing wants no kid.
func TestP104WhatStaysABranch(t *testing.T) {
	gone, short := leaf("1", long), named(leaf("1", "\x05"))
	for _, k := range []loss{
		{"a kid and the value are left", branch(other, kids{"6": byDigest(gone), "7": away()}), "61", []api.Node{gone}, branch(other, kids{"7": away()})},
		{"two kids are left", branch("", kids{"6": byDigest(gone), "7": away(), "8": away()}), "61", []api.Node{gone}, branch("", kids{"7": away(), "8": away()})},
		{"two kids are left of the value", branch(long, kids{"6": short, "7": away()}), "", nil, branch("", kids{"6": short, "7": away()})},
		{"all but one are left", branch("\x05", kids{"6": short, "7": away(), "8": short}), "81", nil, branch("\x05", kids{"6": short, "7": away()})},
	} {
		for _, s := range settings() {
			b, nodes := s.in(t, k.n, k.stubs...)
			b.says(del(keyOf(s.digits+k.digits)), answer{is: true})
			b.stands(s.anew(k.want))
			b.uses(append(nodes, texted(k.stubs...)...)...)
		}
	}
}

func TestP104TopmostLeaf(t *testing.T) {
	for _, n := range []api.Node{leaf("", "\x05"), leaf("61", "\x05"), leaf("6162", long), leaf(digitsOf(full), most)} {
		key := keyOf(pathDigits(n.Path))
		for _, again := range []bool{false, true} {
			b := begin(t, rootOf(n), texted(n))
			if again {
				b.says(put(key, other), answer{})
			}
			b.says(del(key), answer{is: true})
			if b.p.Root() != node.EmptyRoot() || b.p.Root() != digest.Of([]byte{0x80}) {
				t.Fatalf("P10.4: Root behind the last Delete = %x", b.p.Root())
			}
			b.uses(written(n))
			b.says(get(key), answer{})
			b.says(del(key), answer{})
			b.says(put("q", long), answer{})
			b.stands(leaf("71", long))
		}
	}
}

// Of a key that has no value nothing is made anew: each node keeps its name.
func TestP104KeysWithoutAValue(t *testing.T) {
	end := leaf("62", "\x05")
	lower := branch("", kids{"1": byDigest(end), "2": byDigest(twig("\x05", "3"))})
	under := ext("6", byDigest(lower))
	top := branch("", kids{"6": byDigest(under), "7": byDigest(leaf("1", "\x05"))})
	nodes := texted(top, under, lower, end, twig("\x05", "3"), leaf("1", "\x05"))
	for digits, used := range map[string][][]byte{
		"":         nodes[:1],
		"81":       nodes[:1],
		"61":       nodes[:2],
		"65":       nodes[:2],
		"66":       nodes[:3],
		"6671":     nodes[:3],
		"6661":     nodes[:3],
		"661626":   append(nodes[:3:3], nodes[3]),
		"66162626": append(nodes[:3:3], nodes[3]),
		"6624":     append(nodes[:3:3], nodes[4]),
		"72":       append(nodes[:1:1], nodes[5]),
		"7161":     append(nodes[:1:1], nodes[5]),
	} {
		b := begin(t, rootOf(top), nodes)
		b.says(del(keyOf(digits)), answer{})
		b.stands(top)
		b.uses(used...)
		b.says(del(keyOf(digits)), answer{})
		b.stands(top)
	}
}

// A Delete that takes back a Put comes to the root that was there ahead of it, where the nodes are in their normal form.
func TestP104TakesBackAPut(t *testing.T) {
	for _, p := range someTries() {
		x := trieOf(p)
		for _, key := range edgeKeys() {
			if _, has := p[key]; has {
				continue
			}
			for _, value := range []string{"\x09", long} {
				b := begin(t, x.Root(), x.Nodes())
				b.says(put(key, value), answer{})
				b.says(del(key), answer{is: true})
				if b.p.Root() != x.Root() {
					t.Fatalf("P10.4: Put and Delete of %q are seen in the root of %q", key, p)
				}
			}
		}
	}
}

// With an error nothing has been made anew: whatever is asked later is answered as without that call, but for Used.
func TestP105RefusedCalls(t *testing.T) {
	later := []call{get("a"), get("b"), del("b"), put("a", other), get("a"), put("q", long), del("a"), get(""), put("", "\x01"), del("q"), del(""), put("abc", long), get("abc")}
	for _, p := range someTries() {
		x := trieOf(p)
		nodes := x.Nodes()
		for i := range nodes {
			b := begin(t, x.Root(), slices.Delete(slices.Clone(nodes), i, i+1))
			for _, key := range append(edgeKeys(), wrongKeys()...) {
				for _, c := range []call{get(key), put(key, long), put(key, ""), del(key)} {
					tried := b.clone()
					if tried.do(c).e == api.OK {
						continue
					}
					untried := b.clone()
					for _, next := range later {
						if got, want := tried.do(next), untried.do(next); got != want || tried.p.Root() != untried.p.Root() {
							t.Fatalf("P10.5: of %q, behind a refused %v: %v = %v, not %v", p, c, next, got, want)
						}
					}
				}
			}
		}
	}
}
