package proof

import (
	"pergola/api"
	"pergola/nibbles"
	"pergola/node"
	"pergola/trie"
)

const kidsCount = 16

// entry is a key, as its nibbles, and its value.
type entry struct {
	path, value []byte
}

// entriesOf tells what a trie has, rising.
func entriesOf(t *trie.Trie) []entry {
	var l []entry
	for key, value := range t.All() {
		l = append(l, entry{nibbles.Of(key), value})
	}
	return l
}

// writer makes the nodes of a trie out of its entries, and keeps those on one key's way. The trie's own Nodes do not say which of them stands where: found there by its digest, a node might be another one that has the same.
type writer struct {
	path  []byte   // the nibbles of the key
	named [][]byte // the encodings of the nodes on its way that are named by digests, from its end up
}

// encode tells the encoding of the topmost node of some entries, which rise, and begin with the same nibbles: depth of these lead to it.
func (w *writer) encode(l []entry, depth int) []byte {
	// In the normal form every node is right: none is refused.
	b, _ := node.Encode(w.node(l, depth))
	return b
}

func (w *writer) node(l []entry, depth int) api.Node {
	first, last := l[0].path, l[len(l)-1].path
	// What lies between the two begins as they do.
	alike := nibbles.Common(first, last)
	switch {
	case len(l) == 1:
		return api.Node{Kind: api.Leaf, Path: first[depth:], Value: l[0].value}
	case alike > depth:
		return api.Node{Kind: api.Ext, Path: first[depth:alike], Child: w.refer(l, alike)}
	}
	return w.branch(l, depth)
}

func (w *writer) branch(l []entry, depth int) api.Node {
	n := api.Node{Kind: api.Branch, Kids: make([]api.Ref, kidsCount)}
	// A key of which nothing is left is ahead of all others.
	if len(l[0].path) == depth {
		n.Value, l = l[0].value, l[1:]
	}
	for len(l) > 0 {
		i := l[0].path[depth]
		kid := 1
		for kid < len(l) && l[kid].path[depth] == i {
			kid++
		}
		n.Kids[i] = w.refer(l[:kid], depth+1)
		l = l[kid:]
	}
	return n
}

// refer tells how the topmost node of some entries is named by its parent. It is on the key's way if the key begins with the nibbles that lead to it.
func (w *writer) refer(l []entry, depth int) api.Ref {
	b := w.encode(l, depth)
	r := node.Refer(b)
	if r.Kind == api.RefDigest && nibbles.Common(w.path, l[0].path) >= depth {
		w.named = append(w.named, b)
	}
	return r
}
