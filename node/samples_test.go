package node_test

import (
	"bytes"
	"encoding/hex"
	"slices"

	"pergola/api"
	"pergola/digest"
)

// Nodes and references of every form, at each edge that the chapter names.

func leaf(path string, value []byte) api.Node {
	return api.Node{Kind: api.Leaf, Path: nibblesOf(path), Value: value}
}

func ext(path string, child api.Ref) api.Node {
	return api.Node{Kind: api.Ext, Path: nibblesOf(path), Child: child}
}

// branch has these kids, from the first place on, and none behind them.
func branch(value []byte, kids ...api.Ref) api.Node {
	return api.Node{Kind: api.Branch, Kids: append(slices.Clone(kids), make([]api.Ref, 16-len(kids))...), Value: value}
}

func inline(b []byte) api.Ref { return api.Ref{Kind: api.RefInline, Inline: b} }

func byDigest(text string) api.Ref {
	return api.Ref{Kind: api.RefDigest, Digest: digest.Of([]byte(text))}
}

// within has a node inline, whether it is short enough or not.
func within(n api.Node) api.Ref { return inline(plainEncode(n)) }

func unhex(text string) []byte {
	b, err := hex.DecodeString(text)
	if err != nil {
		panic(err)
	}
	return b
}

// bytesFrom is n bytes, each one more than the one ahead of it.
func bytesFrom(first byte, n int) []byte {
	b := make([]byte, n)
	for i := range b {
		b[i] = first + byte(i)
	}
	return b
}

// way is a path of n nibbles.
func way(n int) string {
	const digits = "f0123456789abcdef"
	return string(bytes.Repeat([]byte(digits), 4)[:n])
}

var (
	small = leaf("", []byte{5})
	none  = api.Ref{}
)

// shortBranch is inline, of 20 bytes and, from a value of two on, one more for each byte of the value.
func shortBranch(value int) api.Node {
	return branch(bytesFrom(6, value), none, none, none, within(small))
}

func rightLeaves() []api.Node {
	var l []api.Node
	for _, n := range []int{0, 1, 2, 3, 16, 31, 32, 62, 63, 64} {
		for _, v := range []int{1, 2, 28, 29, 31, 32, 33, 55, 56, 57, 255, 256} {
			l = append(l, leaf(way(n), bytesFrom(0, v)), leaf(way(n), bytesFrom(128, v)))
		}
	}
	for v := range 256 {
		l = append(l, leaf("", []byte{byte(v)}), leaf("a", []byte{byte(v)}))
	}
	for _, p := range []string{"0", "f", "00", "0f", "f0", "ff", "000", "fff"} {
		l = append(l, leaf(p, []byte{0}), leaf(p, unhex("c22005")), leaf(p, bytesFrom(3, 32)))
	}
	return l
}

// rightChildren are references that an extension may have.
func rightChildren() []api.Ref {
	l := []api.Ref{{Kind: api.RefDigest}, byDigest("a"), {Kind: api.RefDigest, Digest: api.Digest{31: 1}, Inline: []byte{}}}
	for v := 1; v < 12; v++ {
		l = append(l, within(shortBranch(v)))
	}
	two := within(small)
	return append(l, within(branch(nil, two, two)), within(branch([]byte{200}, two, none, two)), within(branch(nil, two, two, two, within(leaf("", bytesFrom(1, 3))))))
}

func rightExts() []api.Node {
	var l []api.Node
	for _, n := range []int{1, 2, 3, 16, 63, 64} {
		for _, r := range rightChildren() {
			l = append(l, ext(way(n), r))
		}
	}
	return l
}

// rightKids are references that a branch may have, but for none.
func rightKids() []api.Ref {
	l := rightChildren()
	for _, n := range []api.Node{small, leaf("1", []byte{128}), leaf("12", []byte{0}), leaf("", bytesFrom(1, 28)), leaf(way(54), []byte{9})} {
		l = append(l, within(n))
	}
	for v := 1; v < 10; v++ {
		l = append(l, within(ext("1", within(shortBranch(v)))))
	}
	return l
}

func rightBranches() []api.Node {
	var l []api.Node
	for _, r := range rightKids() {
		for i := range 16 {
			n := branch([]byte{6})
			n.Kids[i] = r
			m := branch(nil, within(small))
			m.Kids[max(i, 1)] = r
			l = append(l, n, m)
		}
	}
	for _, v := range []int{0, 1, 2, 32, 55, 56, 255, 256} {
		full := branch(bytesFrom(127, v))
		mixed := branch(bytesFrom(0, v))
		for i := range 16 {
			full.Kids[i] = byDigest(way(i))
			mixed.Kids[i] = rightKids()[i]
		}
		l = append(l, full, mixed, branch(bytesFrom(9, v), byDigest("a"), none, within(small)))
	}
	return l
}

func rightNodes() []api.Node {
	return append(rightLeaves(), append(rightExts(), rightBranches()...)...)
}

// short are right nodes of each form whose encodings are short enough to be turned byte by byte.
func short() []api.Node {
	kids := branch(nil, within(small), byDigest("a"), within(ext("1", within(shortBranch(1)))))
	return []api.Node{
		small, leaf("1", []byte{128}), leaf("12", []byte("dog")), leaf("", bytesFrom(1, 28)), leaf("123", bytesFrom(1, 32)), leaf(way(64), bytesFrom(1, 56)),
		ext("1", byDigest("a")), ext("12", api.Ref{Kind: api.RefDigest}), ext("1", within(shortBranch(1))), ext("12", within(shortBranch(11))), ext(way(63), byDigest("")),
		shortBranch(1), shortBranch(11), branch(nil, within(small), within(small)), branch([]byte("dog"), byDigest("a")), kids,
	}
}

// refs are references of each kind, right and wrong.
func refs() []api.Ref {
	some := digest.Of(nil)
	one := plainEncode(small)
	least := plainEncode(shortBranch(1))
	l := []api.Ref{
		{}, {Inline: []byte{}}, {Digest: some}, {Digest: api.Digest{31: 1}}, {Inline: []byte{0}}, {Inline: one}, {Digest: some, Inline: one},
		{Kind: 2}, {Kind: 2, Digest: some}, {Kind: 2, Inline: []byte{}}, {Kind: 2, Inline: one}, {Kind: 2, Digest: some, Inline: one}, {Kind: 2, Digest: some, Inline: []byte{0}},
		inline(one), inline(least), {Kind: 1, Digest: some, Inline: one}, {Kind: 1, Digest: api.Digest{1}, Inline: least}, {Kind: 1}, {Kind: 1, Digest: some},
		within(leaf("", bytesFrom(1, 28))), within(leaf("", bytesFrom(1, 29))), within(leaf("", bytesFrom(1, 256))),
		within(shortBranch(11)), within(shortBranch(12)), within(branch(nil, byDigest("a"), byDigest("b"))),
		within(ext("1", inline(least))), within(ext("1", within(shortBranch(9)))), within(ext("1", within(shortBranch(10)))), within(ext("1", byDigest("a"))),
		within(ext("1", within(ext("1", inline(least))))), within(ext("1", inline(one))), within(branch(nil, inline(one))), within(branch([]byte{1}, inline(least))),
		{Kind: -1}, {Kind: 3}, {Kind: 4}, {Kind: 3, Digest: some}, {Kind: 3, Inline: one}, {Kind: -1, Inline: least}, {Kind: 1 << 32, Digest: some}, {Kind: 1<<32 + 1, Inline: one},
	}
	for _, text := range []string{"00", "80", "c0", "c180", "c120", "c22080", "c22105", "c24005", "c2200500", "c220", "c3200580", "c32005", "ffff", "c0c0c0c0c0", "cfcecdcccbcac9c8c7c6c5c4c3c2c1c0"} {
		l = append(l, inline(unhex(text)))
	}
	return append(l, inline(bytes.Repeat([]byte{0xc1}, 31)), inline(make([]byte, 31)), inline(make([]byte, 32)))
}
