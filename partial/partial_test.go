package partial_test

import (
	"slices"
	"strings"
	"testing"

	"pergola/api"
	"pergola/digest"
	"pergola/node"
	"pergola/partial"
)

func TestExamples(t *testing.T) {
	x := trieOf(pairs{"a": "\x01"})
	n := []byte{0xc4, 0x82, 0x20, 0x61, 0x01}
	b := begin(t, node.EmptyRoot(), nil)
	b.says(get("a"), answer{})
	b.says(put("a", "\x01"), answer{})
	b.stands(leaf("61", "\x01"))
	b.uses()
	b = begin(t, x.Root(), nil)
	b.stands(leaf("61", "\x01"))
	b.refused(get("a"))
	b.stands(leaf("61", "\x01"))
	b = begin(t, x.Root(), [][]byte{n})
	b.uses()
	b.says(get("b"), answer{})
	b.uses(n)
	b.says(del("a"), answer{is: true})
	if b.p.Root() != node.EmptyRoot() {
		t.Error("P10.4: a topmost leaf that goes leaves nothing")
	}
	b = begin(t, api.Digest{}, [][]byte{n})
	b.refused(get("a"))
	b.says(put("a", ""), answer{e: api.ErrTrieValue})
	b.says(get(strings.Repeat("a", 33)), answer{e: api.ErrTrieKey})
}

func TestNumbersOfTheErrors(t *testing.T) {
	p := partial.New(api.Digest{}, nil)
	if _, _, e := p.Get(nil); e != 2 {
		t.Error("ErrWitness:", e)
	}
	if e := p.Put([]byte(full+"k"), nil); e != 70 {
		t.Error("ErrTrieKey:", e)
	}
	if e := p.Put(nil, nil); e != 71 {
		t.Error("ErrTrieValue:", e)
	}
}

// P10.1: a root that is EmptyRoot has nothing, whatever nodes are told.
func TestP101EmptyRoot(t *testing.T) {
	x := trieOf(someTries()["long ones inside"])
	for _, nodes := range [][][]byte{nil, {}, {{0x80}}, x.Nodes(), append(noNodes(), x.Nodes()...)} {
		b := begin(t, digest.Of([]byte{0x80}), nodes)
		for _, key := range edgeKeys() {
			b.says(get(key), answer{})
			b.says(del(key), answer{})
		}
		if b.p.Root() != node.EmptyRoot() {
			t.Error("P10.1: Root of nothing")
		}
		for i, key := range edgeKeys() {
			b.says(put(key, []string{"\x01", long, most}[i%3]), answer{})
			b.says(get(key), answer{value: []string{"\x01", long, most}[i%3], is: true})
		}
		b.uses()
		for _, key := range edgeKeys() {
			b.says(del(key), answer{is: true})
		}
		if b.p.Root() != node.EmptyRoot() {
			t.Error("P10.4: Root of nothing, again")
		}
		b.uses()
	}
}

// P10.1: a root that no node has: it is told as it is, and nothing else can be.
func TestP101RootThatNoNodeHas(t *testing.T) {
	x := trieOf(someTries()["long ones inside"])
	turned := x.Root()
	turned[31] ^= 1
	for _, root := range []api.Digest{{}, {31: 1}, turned, node.EmptyCode(), digest.Of([]byte("away"))} {
		for _, nodes := range [][][]byte{nil, {}, noNodes()[2:], x.Nodes()} {
			b := begin(t, root, nodes)
			for _, key := range edgeKeys() {
				for _, c := range []call{get(key), put(key, long), del(key)} {
					b.refused(c)
				}
			}
			if b.p.Root() != root {
				t.Errorf("P10.1: Root = %x, not %x", b.p.Root(), root)
			}
			b.uses()
		}
	}
}

// P10.1: with the root of a node that is one among others, wherever it stands, that is the topmost one.
func TestP101AnyNodeIsATop(t *testing.T) {
	for _, p := range someTries() {
		nodes := trieOf(p).Nodes()
		for i, top := range nodes {
			for turn := range nodes {
				b := begin(t, digest.Of(top), slices.Concat(nodes[turn:], nodes[:turn]))
				for _, key := range edgeKeys() {
					b.do(get(key))
					if !slices.Contains(texts(b.p.Used()), string(nodes[i])) {
						t.Fatalf("P10.6: the topmost node was found, but is not told: %x", nodes[i])
					}
				}
			}
		}
	}
}

// Nodes that node.Decode does not take are found nowhere, and stand in nobody's way.
func TestP101NoNodes(t *testing.T) {
	good := leaf("61", long)
	for _, bad := range noNodes() {
		if _, e := node.Decode(bad); e == api.OK {
			t.Fatalf("%x is a node", bad)
		}
		for _, nodes := range [][][]byte{{bad}, {bad, written(good)}, {written(good), bad}, {bad, written(good), bad}} {
			if digest.Of(bad) != node.EmptyRoot() {
				b := begin(t, digest.Of(bad), nodes)
				for _, c := range []call{get(""), get("a"), put("a", long), del("a")} {
					b.refused(c)
				}
				b.uses()
			}
			if len(nodes) > 1 {
				b := begin(t, rootOf(good), nodes)
				b.says(get("a"), answer{long, true, api.OK})
				b.uses(written(good))
			}
			top := branch(other, kids{"6": textBy(bad), "7": byDigest(good)})
			b := begin(t, rootOf(top), slices.Concat(nodes, texted(top)))
			b.refused(get("a"))
			b.refused(put("a", long))
			b.refused(del("a"))
			b.says(get(""), answer{other, true, api.OK})
			b.uses(written(top))
		}
	}
}

func TestP106AlikeNodesTwice(t *testing.T) {
	for _, p := range someTries() {
		x := trieOf(p)
		once, nodes := begin(t, x.Root(), x.Nodes()), x.Nodes()
		twice := begin(t, x.Root(), slices.Concat(nodes, nodes, nodes))
		each := begin(t, x.Root(), slices.SortedFunc(slices.Values(slices.Concat(nodes, nodes)), func(a, b []byte) int { return slices.Compare(b, a) }))
		for _, key := range edgeKeys() {
			want := once.do(get(key))
			twice.says(get(key), want)
			each.says(get(key), want)
			once.uses(twice.p.Used()...)
			once.uses(each.p.Used()...)
		}
	}
}

// P10.2: the order of the errors, and what each call is refused for whatever is known.
func TestP102P103P104KeysAndValues(t *testing.T) {
	x := trieOf(someTries()["long keys"])
	for _, nodes := range [][][]byte{nil, x.Nodes()[:1], x.Nodes()} {
		for _, root := range []api.Digest{x.Root(), node.EmptyRoot(), {}} {
			b := begin(t, root, nodes)
			for _, key := range wrongKeys() {
				b.says(get(key), answer{e: api.ErrTrieKey})
				b.says(del(key), answer{e: api.ErrTrieKey})
				for _, value := range append(wrongValues(), "\x01", long, most) {
					b.says(put(key, value), answer{e: api.ErrTrieKey})
				}
			}
			for _, key := range edgeKeys() {
				for _, value := range wrongValues() {
					b.says(put(key, value), answer{e: api.ErrTrieValue})
				}
			}
			b.uses()
			if b.p.Root() != root {
				t.Error("P10.5: a wrong key or value has changed the root")
			}
		}
	}
}

func TestP103EdgesOfKeysAndValues(t *testing.T) {
	for _, key := range []string{"", "\x00", full, full[:31], strings.Repeat("\x00", 32), strings.Repeat("\xff", 32)} {
		for _, value := range []string{"\x00", "\x01", "\x80", long, most, most[:255]} {
			b := begin(t, node.EmptyRoot(), nil)
			b.says(put(key, value), answer{})
			b.stands(leaf(digitsOf(key), value))
			b.says(get(key), answer{value, true, api.OK})
			again := begin(t, b.p.Root(), texted(leaf(digitsOf(key), value)))
			again.says(get(key), answer{value, true, api.OK})
			again.says(put(key, "\x07"), answer{})
			again.stands(leaf(digitsOf(key), "\x07"))
			again.says(del(key), answer{is: true})
			again.says(del(key), answer{})
			again.says(get(key), answer{})
		}
	}
}

// The child of an extension, by its digest: where it is looked for as such it must be a branch.
func TestChildrenOfExtensions(t *testing.T) {
	below := branch(other, kids{"6": away()})
	for name, child := range map[string]api.Node{
		"a leaf of no path": leaf("", long),
		"a short leaf":      leaf("", "\x05"),
		"a leaf":            leaf("62", long),
		"an extension":      ext("62", byDigest(below)),
	} {
		top := ext("61", byDigest(child))
		nodes := texted(top, child, below)
		for _, key := range []string{"a", "ab", "abc"} {
			for _, c := range []call{get(key), put(key, long), del(key)} {
				b := begin(t, rootOf(top), nodes)
				b.refused(c)
				b.uses(written(top))
				b.stands(top)
			}
		}
		// Where the way does not go there nobody asks what it is.
		b := begin(t, rootOf(top), nodes)
		b.says(get("b"), answer{})
		b.says(get(""), answer{})
		b.says(del("b"), answer{})
		b.says(put("b", long), answer{})
		b.stands(ext("6", named(branch("", kids{"1": byDigest(child), "2": named(leaf("", long))}))))
		b.uses(written(top))
		// It is a branch's kid now, and may be any node that fits.
		if b.do(get("a")).e != api.OK {
			t.Errorf("%s, as the kid of a branch, is refused", name)
		}
		if !slices.Contains(texts(b.p.Used()), string(written(child))) {
			t.Errorf("P10.6: %s is found, but not told", name)
		}
		// Of what is still an extension's child that is not so.
		b = begin(t, rootOf(top), nodes)
		b.says(put("q", long), answer{})
		b.stands(branch("", kids{"6": named(ext("1", byDigest(child))), "7": named(leaf("1", long))}))
		b.refused(get("a"))
		b.refused(del("ab"))
		b.uses(written(top))
	}
}

// The child of an extension, inline: the node in which it stands is none then.
func TestInlineChildrenOfExtensions(t *testing.T) {
	good := extOf(written(twig("\x05", "3")))
	b := begin(t, digest.Of(good), [][]byte{good})
	b.says(get("\x13"), answer{"\x05", true, api.OK})
	b.uses(good)
	for _, child := range []api.Node{leaf("", "\x05"), leaf("123", "\x05"), ext("1", named(twig("\x05", "3")))} {
		bad := extOf(written(child))
		for _, nodes := range [][][]byte{{bad}, {bad, good}, {good, bad}} {
			b := begin(t, digest.Of(bad), nodes)
			for _, c := range []call{get(""), get("\x13"), put("\x13", long), del("q")} {
				b.refused(c)
			}
			b.uses()
		}
	}
}
