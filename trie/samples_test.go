package trie_test

import (
	"fmt"
	"strings"

	"pergola/api"
	"pergola/digest"
	"pergola/node"
	"pergola/trie"
)

// Keys and values at each edge that the chapter names.

var (
	full  = strings.Repeat("k", 32) // k is 6b
	long  = strings.Repeat("v", 40)
	most  = strings.Repeat("V", 256)
	other = strings.Repeat("w", 40)
)

// edgeKeys: none; one byte; each the beginning of the next; parting at the first nibble, within a byte, at the last one; of MaxKey bytes and of one less.
func edgeKeys() []string {
	return []string{
		"", "\x00", "\x01", "\x0f", "\x10", "\xf0", "\xff", "a", "ab", "abc", "ac", "aq", "b", "q",
		full, full[:31], full[:31] + "j", full[:31] + "{", full[:30] + "j", full[:16], full[:16] + "{" + full[17:],
		"\x7b" + full[1:], "\x6c" + full[1:], strings.Repeat("\x00", 32), strings.Repeat("\x00", 31), strings.Repeat("\xff", 32),
	}
}

func edgeValues() []string {
	return []string{"\x01", "\x00", "\x80", "\xff", "ab", strings.Repeat("x", 27), strings.Repeat("x", 28), strings.Repeat("x", 29), strings.Repeat("x", 30), strings.Repeat("x", 31), strings.Repeat("x", 32), strings.Repeat("x", 33), strings.Repeat("x", 55), strings.Repeat("x", 56), most[:255], most}
}

// wrongKeys and wrongValues are none.
func wrongKeys() []string {
	return []string{full + "k", full + "\x00", strings.Repeat("\x00", 33), full + full, strings.Repeat("a", 1000)}
}

func wrongValues() []string {
	return []string{"", most + "V", most + most, strings.Repeat("\x00", 257)}
}

// smallKeys are few, and have among them each way in which keys part.
func smallKeys() []string {
	return []string{"", "\x00", "\x01", "\x10", "\x00\x00", "\x00\x01", "\x00\x10", "\x10\x00\x00"}
}

// someTries are tries of each form.
func someTries() map[string]plain {
	return map[string]plain{
		"no key":              {},
		"the key of no bytes": {"": "\x01"},
		"one key":             {"a": "\x01"},
		"a long key":          {full: most},
		"two leaves":          {"ab": "\x01", "ac": "\x02"},
		"two long leaves":     {"ab": long, "ac": other},
		"a branch's value":    {"a": long, "ab": "\x01", "": "\x02"},
		"alike leaves":        {"aa": long, "ab": long, "b": long},
		"one in another":      {"": "0", "a": "1", "ab": "2", "abc": "3", "abcd": long, "abcde": "5"},
		"long keys":           {full: "\x01", full[:31]: long, full[:31] + "j": "\x02", full[:31] + "{": most, "\x7b" + full[1:]: "\x03"},
	}
}

func trieOf(p plain) *trie.Trie {
	x := trie.New()
	for _, key := range p.keys() {
		x.Put([]byte(key), []byte(p[key]))
	}
	return x
}

// shape tells a trie's nodes as a text, from Root on, by Nodes: L and a leaf's path and value, E and an extension's path and child, B and a branch's kids and value; # ahead of what is named by a digest.
func shape(x *trie.Trie) string {
	nodes := map[api.Digest][]byte{}
	for _, b := range x.Nodes() {
		nodes[digest.Of(b)] = b
	}
	if len(nodes) == 0 {
		return "nothing"
	}
	return shapeOf(nodes, nodes[x.Root()])
}

func shapeOf(nodes map[api.Digest][]byte, b []byte) string {
	n, e := node.Decode(b)
	if e != api.OK {
		return "?"
	}
	path := ""
	for _, nibble := range n.Path {
		path += fmt.Sprintf("%x", nibble)
	}
	switch n.Kind {
	case api.Leaf:
		return fmt.Sprintf("L%s=%s", path, n.Value)
	case api.Ext:
		return fmt.Sprintf("E%s(%s)", path, shapeRef(nodes, n.Child))
	}
	var kids []string
	for i, r := range n.Kids {
		if r.Kind != api.RefNone {
			kids = append(kids, fmt.Sprintf("%x:%s", i, shapeRef(nodes, r)))
		}
	}
	return fmt.Sprintf("B{%s}%s", strings.Join(kids, " "), n.Value)
}

func shapeRef(nodes map[api.Digest][]byte, r api.Ref) string {
	if r.Kind == api.RefDigest {
		return "#" + shapeOf(nodes, nodes[r.Digest])
	}
	return shapeOf(nodes, r.Inline)
}

// next goes round all numbers, in an order that is no simple one.
func next(n uint32) uint32 { return n*1664525 + 1013904223 }
