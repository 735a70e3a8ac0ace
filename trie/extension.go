package trie

import (
	"bytes"
	"slices"

	"pergola/api"
	"pergola/nibbles"
)

// extension is the tree of keys that all begin with a path, and part behind it: its child is a branch.
type extension struct {
	path  []byte
	child tree
}

func (e extension) find(rest []byte) []byte {
	behind, ok := bytes.CutPrefix(rest, e.path)
	if !ok {
		return nil
	}
	return e.child.find(behind)
}

func (e extension) with(rest, value []byte) tree {
	n := nibbles.Common(e.path, rest)
	if n == len(e.path) {
		return extension{e.path, e.child.with(rest[n:], value)}
	}
	var fork branch
	fork.kids[e.path[n]] = e.child.under(e.path[n+1:])
	return fork.with(rest[n:], value).under(rest[:n])
}

// What is left of the child has a key: a branch has two or more.
func (e extension) without(rest []byte) tree {
	return e.child.without(rest[len(e.path):]).under(e.path)
}

func (e extension) under(path []byte) tree {
	return extension{slices.Concat(path, e.path), e.child}
}

func (e extension) each(path []byte, yield func(path, value []byte) bool) bool {
	return e.child.each(slices.Concat(path, e.path), yield)
}

func (e extension) node(w *writer) api.Node {
	return api.Node{Kind: api.Ext, Path: e.path, Child: w.refer(e.child)}
}
