package partial_test

import (
	"slices"
	"strings"

	"pergola/api"
	"pergola/digest"
	"pergola/nest"
	"pergola/node"
	"pergola/partial"
	"pergola/trie"
)

// Keys, tries and nodes at each edge that the chapter names.

var (
	full  = strings.Repeat("k", 32) // k is 6b
	long  = strings.Repeat("v", 40)
	most  = strings.Repeat("V", 256)
	other = strings.Repeat("w", 40)
)

// edgeKeys: none; one byte; each the beginning of the next; parting at the first nibble, within a byte, at the last one; of MaxKey bytes and of one less.
func edgeKeys() []string {
	return []string{
		"", "\x00", "\x01", "\x10", "\xff", "a", "ab", "abc", "abd", "ac", "aq", "b", "q",
		full, full[:31], full[:31] + "j", full[:31] + "{", full[:16], full[:16] + "{" + full[17:], "\x7b" + full[1:],
	}
}

// wrongKeys and wrongValues are none.
func wrongKeys() []string {
	return []string{full + "k", full + "\x00", strings.Repeat("\x00", 33), full + full, strings.Repeat("a", 1000)}
}

func wrongValues() []string {
	return []string{"", most + "V", most + most, strings.Repeat("\x00", 257)}
}

// smallKeys are few, and have among them each way in which keys part.
func smallKeys() []string {
	return []string{"", "\x00", "\x01", "\x10", "\x00\x00", "\x00\x01", "\x00\x10", "\x10\x00\x00"}
}

// pairs are keys and their values.
type pairs map[string]string

// someTries are tries of each form.
func someTries() map[string]pairs {
	return map[string]pairs{
		"no key":              {},
		"the key of no bytes": {"": "\x01"},
		"one key":             {"a": "\x01"},
		"a long key":          {full: most},
		"two leaves":          {"ab": "\x01", "ac": "\x02"},
		"two long leaves":     {"ab": long, "ac": other},
		"a branch's value":    {"a": long, "ab": "\x01", "": "\x02"},
		"alike leaves":        {"aa": long, "ab": long, "b": long},
		"one in another":      {"": "0", "a": "1", "ab": "2", "abc": "3", "abcd": long, "abcde": "5"},
		"long ones inside":    {"": long, "a": long, "ab": long, "abc": long, "abd": other, "q": most},
		"long keys":           {full: "\x01", full[:31]: long, full[:31] + "j": "\x02", full[:31] + "{": most, "\x7b" + full[1:]: "\x03"},
	}
}

func trieOf(p pairs) *trie.Trie {
	x := trie.New()
	for key, value := range p {
		if e := x.Put([]byte(key), []byte(value)); e != api.OK {
			panic(e)
		}
	}
	return x
}

// partialOf knows all nodes of a trie.
func partialOf(x *trie.Trie) *partial.Partial { return partial.New(x.Root(), x.Nodes()) }

// Nodes that are made by hand.

func leaf(digits, value string) api.Node {
	return api.Node{Kind: api.Leaf, Path: pathOf(digits), Value: []byte(value)}
}

func ext(digits string, child api.Ref) api.Node {
	return api.Node{Kind: api.Ext, Path: pathOf(digits), Child: child}
}

// kids are a branch's, by their digits.
type kids map[string]api.Ref

func branch(value string, by kids) api.Node {
	n := api.Node{Kind: api.Branch, Kids: make([]api.Ref, 16), Value: []byte(value)}
	for digit, r := range by {
		n.Kids[pathOf(digit)[0]] = r
	}
	return n
}

func written(n api.Node) []byte {
	b, e := node.Encode(n)
	if e != api.OK {
		panic("no node")
	}
	return b
}

// named is a node as its parent names it, if both are made.
func named(n api.Node) api.Ref { return node.Refer(written(n)) }

// byDigest names a node by its digest, also a short one.
func byDigest(n api.Node) api.Ref { return textBy(written(n)) }

// textBy names bytes by their digest, whatever they are.
func textBy(b []byte) api.Ref { return api.Ref{Kind: api.RefDigest, Digest: digest.Of(b)} }

// away names a node that nobody tells.
func away() api.Ref { return textBy([]byte("away")) }

// twig is the smallest branch: it has the key of which nothing is left, and those of which the digits are.
func twig(value, digits string) api.Node {
	by := kids{}
	for _, digit := range strings.Split(digits, "") {
		by[digit] = named(leaf("", "\x05"))
	}
	return branch(value, by)
}

// noNodes are bytes that node.Decode does not take.
func noNodes() [][]byte {
	one, _ := nest.Encode(nest.List(nest.Text([]byte{0x20})))
	noValue, _ := nest.Encode(nest.List(nest.Text([]byte{0x20}), nest.Text(nil)))
	much, _ := nest.Encode(nest.List(nest.Text([]byte{0x20}), nest.Text([]byte(most+"V"))))
	text, _ := nest.Encode(nest.Text([]byte(long)))
	good := written(leaf("", long))
	return [][]byte{nil, {}, {0x80}, {0xc0}, {0x00}, {0xff}, one, noValue, much, text, oneKid(), extOf(written(leaf("1", "\x05"))), append(slices.Clone(good), 0), good[:len(good)-1]}
}

// oneKid is a branch with a kid alone, which is too little.
func oneKid() []byte {
	l := slices.Repeat([]api.Item{nest.Text(nil)}, 17)
	l[1] = nest.Text(slices.Repeat([]byte{7}, 32))
	b, _ := nest.Encode(nest.List(l...))
	return b
}

// extOf is an extension of the path 1 whose child stands inline, whatever it is.
func extOf(child []byte) []byte {
	x, _ := nest.Decode(child)
	b, _ := nest.Encode(nest.List(nest.Text([]byte{0x11}), x))
	return b
}

// texted are the encodings of nodes.
func texted(l ...api.Node) [][]byte {
	var some [][]byte
	for _, n := range l {
		some = append(some, written(n))
	}
	return some
}

// rootOf is the root by which a node is the topmost one.
func rootOf(n api.Node) api.Digest { return digest.Of(written(n)) }

// next goes round all numbers, in an order that is no simple one.
func next(n uint32) uint32 { return n*1664525 + 1013904223 }
