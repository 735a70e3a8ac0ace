package recorder_test

import (
	"encoding/hex"
	"strings"

	"pergola/api"
	"pergola/node"
	"pergola/trie"
)

// Keys, tries and nodes at each edge that the chapter names.

var (
	full  = strings.Repeat("k", 32) // k is 6b
	long  = strings.Repeat("v", 40)
	most  = strings.Repeat("V", 256)
	other = strings.Repeat("w", 40)
)

// edgeKeys: none; one byte; each the beginning of the next; parting at the first nibble, within a byte, at the last one; of MaxKey bytes and of one less.
func edgeKeys() []string {
	return []string{
		"", "\x00", "\x01", "\x10", "\xff", "a", "ab", "abc", "abd", "ac", "aq", "b", "q",
		full, full[:31], full[:31] + "j", full[:31] + "{", full[:16], full[:16] + "{" + full[17:], "\x7b" + full[1:],
	}
}

// wrongKeys and wrongValues are none.
func wrongKeys() []string {
	return []string{full + "k", full + "\x00", strings.Repeat("\x00", 33), full + full, strings.Repeat("a", 1000)}
}

func wrongValues() []string {
	return []string{"", most + "V", most + most, strings.Repeat("\x00", 257)}
}

// smallKeys are few, and have among them each way in which keys part.
func smallKeys() []string {
	return []string{"", "\x00", "\x01", "\x10", "\x00\x00", "\x00\x01", "\x00\x10"}
}

// wordKeys are keys of eight bytes, as those of words, near each other.
func wordKeys() []string {
	var l []string
	for i := range 24 {
		key := make([]byte, 8)
		key[7], key[6], key[i%8] = byte(i*37), byte(i/5), byte(i*11)
		l = append(l, string(key))
	}
	return l
}

// pairs are keys and their values.
type pairs map[string]string

// someTries are tries of each form.
func someTries() map[string]pairs {
	return map[string]pairs{
		"no key":              {},
		"the key of no bytes": {"": "\x01"},
		"one key":             {"a": "\x01"},
		"a long key":          {full: most},
		"two leaves":          {"ab": "\x01", "ac": "\x02"},
		"two long leaves":     {"ab": long, "ac": other},
		"a branch's value":    {"a": long, "ab": "\x01", "": "\x02"},
		"alike leaves":        {"aa": long, "ab": long, "b": long},
		"alike branches":      {"aa": long, "ab": other, "qa": long, "qb": other},
		"one in another":      {"": "0", "a": "1", "ab": "2", "abc": "3", "abcd": long, "abcde": "5"},
		"long ones inside":    {"": long, "a": long, "ab": long, "abc": long, "abd": other, "q": most},
		"long keys":           {full: "\x01", full[:31]: long, full[:31] + "j": "\x02", full[:31] + "{": most, "\x7b" + full[1:]: "\x03"},
	}
}

func trieOf(p pairs) *trie.Trie {
	x := trie.New()
	for key, value := range p {
		if e := x.Put([]byte(key), []byte(value)); e != api.OK {
			panic(e)
		}
	}
	return x
}

// pairsOf are the keys and the values of a trie.
func pairsOf(x *trie.Trie) pairs {
	p := pairs{}
	for key, value := range x.All() {
		p[string(key)] = string(value)
	}
	return p
}

// Nodes that are made by hand.

const hexDigits = "0123456789abcdef"

func digitsOf(key string) string { return hex.EncodeToString([]byte(key)) }

// keyOf is the key of some digits.
func keyOf(digits string) string {
	b, err := hex.DecodeString(digits)
	if err != nil {
		panic(err)
	}
	return string(b)
}

func pathOf(digits string) []byte {
	var p []byte
	for _, c := range digits {
		p = append(p, byte(strings.IndexRune(hexDigits, c)))
	}
	return p
}

func leaf(digits, value string) api.Node {
	return api.Node{Kind: api.Leaf, Path: pathOf(digits), Value: []byte(value)}
}

func ext(digits string, child api.Node) api.Node {
	return api.Node{Kind: api.Ext, Path: pathOf(digits), Child: named(child)}
}

// kids are a branch's, by their digits.
type kids map[string]api.Node

func branch(value string, by kids) api.Node {
	n := api.Node{Kind: api.Branch, Kids: make([]api.Ref, 16), Value: []byte(value)}
	for digit, kid := range by {
		n.Kids[pathOf(digit)[0]] = named(kid)
	}
	return n
}

func written(n api.Node) []byte {
	b, e := node.Encode(n)
	if e != api.OK {
		panic("no node")
	}
	return b
}

// named is a node as its parent names it.
func named(n api.Node) api.Ref { return node.Refer(written(n)) }

// next goes round all numbers, in an order that is no simple one.
func next(n uint32) uint32 { return n*1664525 + 1013904223 }

// someCalls are calls of keys out of a pool, in an order that is no simple one.
func someCalls(seed uint32, keys []string, count int) []call {
	var l []call
	values := []string{"\x01", long, "\x80", other, most, "\x02"}
	n := next(seed * 2654435761)
	for range count {
		n = next(n)
		key, value := keys[int(n>>9)%len(keys)], values[n>>3%6]
		switch n >> 28 % 8 {
		case 0, 1:
			l = append(l, get(key))
		case 2, 3, 4:
			l = append(l, put(key, value))
		default:
			l = append(l, del(key))
		}
	}
	return l
}

// grown is the trie that such calls leave.
func grown(seed uint32, keys []string, count int) *trie.Trie {
	x := trie.New()
	for _, c := range someCalls(seed, keys, count) {
		c.of(x)
	}
	return x
}
