package trie

import (
	"bytes"
	"slices"

	"pergola/api"
	"pergola/nibbles"
)

// leaf is the tree of one key.
type leaf struct {
	path, value []byte
}

func (l leaf) find(rest []byte) []byte {
	if !bytes.Equal(rest, l.path) {
		return nil
	}
	return l.value
}

func (l leaf) with(rest, value []byte) tree {
	if bytes.Equal(rest, l.path) {
		return leaf{rest, value}
	}
	n := nibbles.Common(l.path, rest)
	return branch{}.with(l.path[n:], l.value).with(rest[n:], value).under(rest[:n])
}

func (l leaf) without(rest []byte) tree { return nil }

func (l leaf) under(path []byte) tree {
	return leaf{slices.Concat(path, l.path), l.value}
}

func (l leaf) each(path []byte, yield func(path, value []byte) bool) bool {
	return yield(slices.Concat(path, l.path), l.value)
}

func (l leaf) node(w *writer) api.Node {
	return api.Node{Kind: api.Leaf, Path: l.path, Value: l.value}
}
