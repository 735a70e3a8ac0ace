package node_test

import (
	"slices"
	"testing"

	"pergola/api"
	"pergola/node"
)

func TestP51RightNodes(t *testing.T) {
	for _, n := range rightNodes() {
		if !node.Right(n) {
			t.Fatalf("P5.1: not Right: %+v", n)
		}
	}
}

func TestP51WrongNodes(t *testing.T) {
	one := within(small)
	ok := within(shortBranch(1))
	for _, k := range []struct {
		why string
		n   api.Node
	}{
		{"the kind 0", api.Node{}},
		{"the kind 0 with a leaf's fields", api.Node{Path: []byte{1}, Value: []byte{5}}},
		{"the kind 0 with an extension's fields", api.Node{Path: []byte{1}, Child: ok}},
		{"the kind 0 with a branch's fields", api.Node{Kids: shortBranch(1).Kids, Value: []byte{6}}},
		{"the kind 4", api.Node{Kind: 4}},
		{"the kind 4 with a leaf's fields", api.Node{Kind: 4, Path: []byte{1}, Value: []byte{5}}},
		{"the kind 4 with an extension's fields", api.Node{Kind: 4, Path: []byte{1}, Child: ok}},
		{"the kind 4 with a branch's fields", api.Node{Kind: 4, Kids: shortBranch(1).Kids, Value: []byte{6}}},
		{"the kind -1", api.Node{Kind: -1, Path: []byte{1}, Value: []byte{5}}},
		{"a kind whose last bits are a leaf's", api.Node{Kind: 1<<32 + 1, Path: []byte{1}, Value: []byte{5}}},
		{"a leaf without a value", leaf("1", nil)},
		{"a leaf with a value of 257 bytes", leaf("1", make([]byte, api.MaxValue+1))},
		{"a leaf with 65 nibbles", leaf(way(65), []byte{5})},
		{"a leaf with a nibble 16", api.Node{Kind: api.Leaf, Path: []byte{16}, Value: []byte{5}}},
		{"a leaf with a nibble 255 at its end", api.Node{Kind: api.Leaf, Path: []byte{1, 2, 255}, Value: []byte{5}}},
		{"a leaf with a child", api.Node{Kind: api.Leaf, Path: []byte{1}, Value: []byte{5}, Child: ok}},
		{"a leaf with a zero digest as a child", api.Node{Kind: api.Leaf, Value: []byte{5}, Child: api.Ref{Kind: api.RefDigest}}},
		{"a leaf with a child of no kind, but with a digest", api.Node{Kind: api.Leaf, Value: []byte{5}, Child: api.Ref{Digest: api.Digest{1}}}},
		{"a leaf with a child of no kind, but with bytes", api.Node{Kind: api.Leaf, Value: []byte{5}, Child: api.Ref{Inline: []byte{1}}}},
		{"a leaf with kids that are none", api.Node{Kind: api.Leaf, Value: []byte{5}, Kids: make([]api.Ref, 16)}},
		{"a leaf with one kid that is none", api.Node{Kind: api.Leaf, Value: []byte{5}, Kids: make([]api.Ref, 1)}},
		{"an extension without a path", ext("", ok)},
		{"an extension with 65 nibbles", ext(way(65), ok)},
		{"an extension with a nibble 16", api.Node{Kind: api.Ext, Path: []byte{1, 16}, Child: ok}},
		{"an extension without a child", ext("1", none)},
		{"an extension to a leaf", ext("1", one)},
		{"an extension to an extension", ext("1", within(ext("1", ok)))},
		{"an extension to a branch of 32 bytes", ext("1", within(shortBranch(12)))},
		{"an extension to a wrong branch", ext("1", within(branch(nil, one)))},
		{"an extension to a branch with a digest beside it", ext("1", api.Ref{Kind: api.RefInline, Digest: api.Digest{1}, Inline: ok.Inline})},
		{"an extension to a digest with a branch beside it", ext("1", api.Ref{Kind: api.RefDigest, Digest: api.Digest{1}, Inline: ok.Inline})},
		{"an extension with a value", api.Node{Kind: api.Ext, Path: []byte{1}, Child: ok, Value: []byte{5}}},
		{"an extension with kids", api.Node{Kind: api.Ext, Path: []byte{1}, Child: ok, Kids: shortBranch(1).Kids}},
		{"an extension with a kid that is none", api.Node{Kind: api.Ext, Path: []byte{1}, Child: ok, Kids: make([]api.Ref, 1)}},
		{"a branch with nothing", branch(nil)},
		{"a branch with one kid alone", branch(nil, one)},
		{"a branch with one digest alone", branch(nil, byDigest("a"))},
		{"a branch with a value alone", branch([]byte{6})},
		{"a branch with a value of two bytes alone", branch([]byte{6, 6})},
		{"a branch with a value of 257 bytes", branch(make([]byte, api.MaxValue+1), one, one)},
		{"a branch with a path", api.Node{Kind: api.Branch, Path: []byte{1}, Kids: branch(nil, one, one).Kids}},
		{"a branch with a child", api.Node{Kind: api.Branch, Child: ok, Kids: branch(nil, one, one).Kids}},
		{"a branch without kids", api.Node{Kind: api.Branch, Value: []byte{6}}},
		{"a branch with 15 kids", api.Node{Kind: api.Branch, Value: []byte{6}, Kids: slices.Repeat([]api.Ref{one}, 15)}},
		{"a branch with 17 kids", api.Node{Kind: api.Branch, Value: []byte{6}, Kids: slices.Repeat([]api.Ref{one}, 17)}},
		{"a branch with 17 kids, the last of them none", api.Node{Kind: api.Branch, Kids: append(branch(nil, one, one).Kids, none)}},
	} {
		if node.Right(k.n) {
			t.Errorf("P5.1: %s is Right", k.why)
		}
		if b, e := node.Encode(k.n); len(b) != 0 || e != api.ErrNodeForm {
			t.Errorf("P5.2: Encode of %s = %x %d, not ErrNodeForm", k.why, b, e)
		}
	}
}

func TestP51ReferencesOfABranch(t *testing.T) {
	for _, r := range refs() {
		for i := range 16 {
			n := branch([]byte{6})
			n.Kids[i] = r
			// One kid and a value are enough: a right reference alone decides, if it is not none.
			if got, want := node.Right(n), r.Kind != api.RefNone && plainRef(r); got != want {
				t.Fatalf("P5.1: a branch with the kid %d %+v: %v, not %v", i, r, got, want)
			}
			n.Kids[(i+1)%16], n.Kids[(i+5)%16] = byDigest("a"), within(small)
			if got, want := node.Right(n), plainRef(r); got != want {
				t.Fatalf("P5.1: a branch with kids beside the kid %d %+v: %v, not %v", i, r, got, want)
			}
		}
	}
}

func TestP51ReferencesOneByOne(t *testing.T) {
	one, branch20 := plainEncode(small), plainEncode(shortBranch(1))
	for _, k := range []struct {
		r          api.Ref
		kid, child bool
	}{
		{api.Ref{}, true, false},
		{api.Ref{Inline: []byte{}}, true, false},
		{api.Ref{Digest: api.Digest{1}}, false, false},
		{api.Ref{Digest: api.Digest{31: 1}}, false, false},
		{api.Ref{Inline: one}, false, false},
		{api.Ref{Kind: api.RefDigest}, true, true},
		{api.Ref{Kind: api.RefDigest, Digest: api.Digest{1}}, true, true},
		{api.Ref{Kind: api.RefDigest, Inline: []byte{}}, true, true},
		{api.Ref{Kind: api.RefDigest, Inline: branch20}, false, false},
		{inline(one), true, false},
		{inline(branch20), true, true},
		{within(ext("1", inline(branch20))), true, false},
		{within(leaf("", bytesFrom(1, 28))), true, false},  // 31 bytes
		{within(leaf("", bytesFrom(1, 29))), false, false}, // 32 bytes
		{within(shortBranch(11)), true, true},              // 31 bytes
		{within(shortBranch(12)), false, false},            // 32 bytes
		{inline(nil), false, false},
		{inline([]byte{0x80}), false, false},
		{inline([]byte{0xc0}), false, false},
		{inline(append(slices.Clone(one), 0)), false, false},
		{inline(branch20[:19]), false, false},
		{api.Ref{Kind: api.RefInline, Digest: api.Digest{31: 1}, Inline: branch20}, false, false},
		{api.Ref{Kind: 3}, false, false},
		{api.Ref{Kind: 3, Inline: branch20}, false, false},
		{api.Ref{Kind: -1}, false, false},
		{api.Ref{Kind: 3, Digest: api.Digest{1}}, false, false},
	} {
		if got := node.Right(branch(nil, byDigest("a"), byDigest("b"), k.r)); got != k.kid {
			t.Errorf("P5.1: the kid %+v: %v", k.r, got)
		}
		if got := node.Right(ext("1", k.r)); got != k.child {
			t.Errorf("P5.1: the child %+v: %v", k.r, got)
		}
	}
}

// Each field's edges, with those of each other field.
func TestP51AllFieldsWithAllFields(t *testing.T) {
	one, two := within(small), byDigest("a")
	paths := [][]byte{nil, {}, {0}, {15}, {16}, {1, 255}, make([]byte, 64), make([]byte, 65), append(make([]byte, 63), 16), append(make([]byte, 64), 16)}
	values := [][]byte{nil, {}, {0}, {5, 6}, make([]byte, 256), make([]byte, 257)}
	kids := [][]api.Ref{
		nil, {}, make([]api.Ref, 1), make([]api.Ref, 15), make([]api.Ref, 16), make([]api.Ref, 17), {one}, {two, two},
		branch(nil, one).Kids, branch(nil, two, one).Kids, slices.Repeat([]api.Ref{two}, 15), slices.Repeat([]api.Ref{two}, 16), slices.Repeat([]api.Ref{two}, 17),
		branch(nil, two, one, api.Ref{Kind: 3}).Kids, branch(nil, two, one, inline(nil)).Kids, branch(nil, two, one, api.Ref{Digest: api.Digest{1}}).Kids,
	}
	count := [4]int{}
	for kind := -1; kind <= 5; kind++ {
		for _, path := range paths {
			for _, value := range values {
				for _, child := range refs() {
					for _, l := range kids {
						n := api.Node{Kind: kind, Path: path, Value: value, Child: child, Kids: l}
						got := node.Right(n)
						if got != plainRight(n) {
							t.Fatalf("P5.1: Right of %+v: %v", n, got)
						}
						if got {
							count[kind]++
						}
					}
				}
			}
		}
	}
	if count[api.Leaf] == 0 || count[api.Ext] == 0 || count[api.Branch] == 0 {
		t.Error("P5.1: a kind that is never Right:", count)
	}
}

func TestP51HowManyWaysABranchHas(t *testing.T) {
	for kids := range 17 {
		for value := range 3 {
			for from := range 17 - kids {
				n := branch(bytesFrom(1, value))
				for i := range kids {
					n.Kids[from+i] = []api.Ref{within(small), byDigest("a")}[i%2]
				}
				if got, want := node.Right(n), kids+min(value, 1) >= 2; got != want {
					t.Fatalf("P5.1: a branch with %d kids, and a value of %d bytes: %v", kids, value, got)
				}
			}
		}
	}
}
