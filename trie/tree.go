package trie

import "pergola/api"

// tree is what there is of some keys, all of which begin with the nibbles that lead to it: a leaf, an extension or a branch, with all that is below. It never changes, nor do its paths and values, so that tries and other trees share it.
type tree interface {
	// find tells the value of the key of which rest is left; none, if it has none.
	find(rest []byte) []byte
	// with is the tree in which that key has the value.
	with(rest, value []byte) tree
	// without is the tree in which that key, which must have a value, has none; nil, if it was the only one.
	without(rest []byte) tree
	// under is the tree with a path ahead of all its keys.
	under(path []byte) tree
	// each tells all keys, as their nibbles, with their values, rising, as long as yield asks for more; whether it still does.
	each(path []byte, yield func(path, value []byte) bool) bool
	// node is the topmost node as chapter 5 has it.
	node(w *writer) api.Node
}

// find and put ask a tree that may be nil: one without keys.

func find(t tree, rest []byte) []byte {
	if t == nil {
		return nil
	}
	return t.find(rest)
}

func put(t tree, rest, value []byte) tree {
	if t == nil {
		return leaf{rest, value}
	}
	return t.with(rest, value)
}
