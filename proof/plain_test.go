package proof_test

import (
	"bytes"
	"encoding/hex"
	"maps"
	"slices"
	"strings"
	"testing"

	"pergola/api"
	"pergola/digest"
	"pergola/node"
	"pergola/proof"
	"pergola/trie"
)

// plain are keys and their values.
type plain map[string]string

func (p plain) keys() []string { return slices.Sorted(maps.Keys(p)) }

func trieOf(p plain) *trie.Trie {
	x := trie.New()
	for _, key := range p.keys() {
		if e := x.Put([]byte(key), []byte(p[key])); e != api.OK {
			panic(e)
		}
	}
	return x
}

// digitsOf are a key's nibbles, in hexadecimal digits.
func digitsOf(key string) string { return hex.EncodeToString([]byte(key)) }

func pathOf(digits string) []byte {
	var p []byte
	for _, c := range digits {
		p = append(p, byte(strings.IndexRune("0123456789abcdef", c)))
	}
	return p
}

func pathDigits(path []byte) string {
	text := ""
	for _, n := range path {
		text += "0123456789abcdef"[n : n+1]
	}
	return text
}

// stop is a node on a key's way: how it is named, and what is left of the key there.
type stop struct {
	text  []byte
	named bool // by its digest
	node  api.Node
	rest  string
}

// wayOf reads what chapter 9 says of a key's way, and goes it by the trie's Root and Nodes.
func wayOf(x *trie.Trie, key string) []stop {
	nodes := map[api.Digest][]byte{}
	for _, b := range x.Nodes() {
		nodes[digest.Of(b)] = b
	}
	if len(nodes) == 0 {
		return nil
	}
	var way []stop
	name, rest := api.Ref{Kind: api.RefDigest, Digest: x.Root()}, digitsOf(key)
	for name.Kind != api.RefNone {
		text := name.Inline
		if name.Kind == api.RefDigest {
			text = nodes[name.Digest]
		}
		n, e := node.Decode(text)
		if e != api.OK {
			panic("no node")
		}
		way = append(way, stop{text, name.Kind == api.RefDigest, n, rest})
		name, rest = plainNext(n, rest)
	}
	return way
}

// plainNext is where the way goes from a node; of no kind: it ends there.
func plainNext(n api.Node, rest string) (api.Ref, string) {
	if n.Kind == api.Branch && rest != "" {
		return n.Kids[strings.Index("0123456789abcdef", rest[:1])], rest[1:]
	}
	if behind, ok := strings.CutPrefix(rest, pathDigits(n.Path)); ok && n.Kind == api.Ext {
		return n.Child, behind
	}
	return api.Ref{}, ""
}

// plainProve reads P9.1.
func plainProve(x *trie.Trie, key string) []string {
	var l []string
	for _, s := range wayOf(x, key) {
		if s.named {
			l = append(l, string(s.text))
		}
	}
	return l
}

// plainVerify reads P9.2.
func plainVerify(root api.Digest, key string, l []string) (string, bool, api.Errno) {
	if len(key) > 32 {
		return "", false, 70
	}
	if len(l) == 0 && root == digest.Of([]byte{0x80}) {
		return "", false, 0
	}
	value, left, ok := plainBelow(api.Ref{Kind: api.RefDigest, Digest: root}, digitsOf(key), l, false)
	if !ok || len(left) > 0 {
		return "", false, 90
	}
	return value, value != "", 0
}

// plainBelow tells the value that a key has from the node of a name on, and what is left of the proof; false, if the proof is none.
func plainBelow(name api.Ref, rest string, l []string, branch bool) (string, []string, bool) {
	text := string(name.Inline)
	if name.Kind == api.RefDigest {
		if len(l) == 0 || digest.Of([]byte(l[0])) != name.Digest {
			return "", nil, false
		}
		text, l = l[0], l[1:]
	}
	n, e := node.Decode([]byte(text))
	if e != api.OK || branch && n.Kind != api.Branch {
		return "", nil, false
	}
	if below, behind := plainNext(n, rest); below.Kind != api.RefNone {
		return plainBelow(below, behind, l, n.Kind == api.Ext)
	}
	switch {
	case n.Kind == api.Leaf && pathDigits(n.Path) == rest:
		return string(n.Value), l, true
	case n.Kind == api.Branch && rest == "":
		return string(n.Value), l, true
	}
	return "", l, true
}

func texts(l [][]byte) []string {
	var some []string
	for _, b := range l {
		some = append(some, string(b))
	}
	return some
}

func lists(l []string) [][]byte {
	var some [][]byte
	for _, text := range l {
		some = append(some, []byte(text))
	}
	return some
}

// proved asks for a proof that there must be.
func proved(t *testing.T, x *trie.Trie, key string) [][]byte {
	t.Helper()
	l, e := proof.Prove(x, []byte(key))
	if e != api.OK {
		t.Fatalf("P9.1: Prove(%q) = %d", key, e)
	}
	return l
}

// says asks that Verify answers just this.
func says(t *testing.T, why string, root api.Digest, key string, l [][]byte, value string, has bool, want api.Errno) {
	t.Helper()
	if v, is, e := proof.Verify(root, []byte(key), l); string(v) != value || is != has || e != want {
		t.Fatalf("%s: Verify(%x, %q, %x) = %q, %v, %d, not %q, %v, %d", why, root, key, l, v, is, e, value, has, want)
	}
}

// refused asks that Verify answers ErrProofForm, and nothing beside it.
func refused(t *testing.T, why string, root api.Digest, key string, l [][]byte) {
	t.Helper()
	says(t, why, root, key, l, "", false, api.ErrProofForm)
}

// asPlain asks that Verify answers as the plain one.
func asPlain(t *testing.T, root api.Digest, key string, l [][]byte) {
	t.Helper()
	value, has, e := plainVerify(root, key, texts(l))
	says(t, "P9.2", root, key, l, value, has, e)
}

// alike asks the trie's proofs of some keys, and holds them against the chapter.
func alike(t *testing.T, x *trie.Trie, p plain, keys ...string) {
	t.Helper()
	root := x.Root()
	for _, key := range slices.Concat(p.keys(), keys) {
		l := proved(t, x, key)
		if want := plainProve(x, key); !slices.Equal(texts(l), want) {
			t.Fatalf("P9.1: Prove(%q) of %q = %x, not %x", key, p, l, want)
		}
		if len(l) > 2*len(key)+1 {
			t.Fatalf("P9.5: Prove(%q) of %q has %d nodes", key, p, len(l))
		}
		value, has := p[key]
		says(t, "P9.3", root, key, l, value, has, api.OK)
		if v, is, e := x.Get([]byte(key)); string(v) != value || is != has || e != api.OK {
			t.Fatalf("P9.1: behind Prove: Get(%q) of %q = %q, %v, %d", key, p, v, is, e)
		}
	}
	if x.Root() != root || x.Len() != len(p) || !bytes.Equal(slices.Concat(x.Nodes()...), slices.Concat(trieOf(p).Nodes()...)) {
		t.Fatalf("P9.1: Prove has changed the trie %q", p)
	}
}
