package trie

import (
	"slices"

	"pergola/api"
)

const kidsCount = 16

// branch is the tree of keys that part at once. A method has a copy of it, array and all, and may write there.
type branch struct {
	kids  [kidsCount]tree // nil: there is none
	value []byte          // of the key of which nothing is left; empty: there is none
}

func (b branch) find(rest []byte) []byte {
	if len(rest) == 0 {
		return b.value
	}
	return find(b.kids[rest[0]], rest[1:])
}

func (b branch) with(rest, value []byte) tree {
	if len(rest) == 0 {
		b.value = value
		return b
	}
	i := rest[0]
	b.kids[i] = put(b.kids[i], rest[1:], value)
	return b
}

func (b branch) without(rest []byte) tree {
	if len(rest) == 0 {
		b.value = nil
	} else {
		i := rest[0]
		b.kids[i] = b.kids[i].without(rest[1:])
	}
	return b.normal()
}

// normal is what a branch that has lost something is in the normal form: at least one kid, or the value, is left.
func (b branch) normal() tree {
	kids, last := 0, 0
	for i, kid := range b.kids {
		if kid != nil {
			kids, last = kids+1, i
		}
	}
	switch {
	case kids == 0:
		return leaf{nil, b.value}
	case kids == 1 && len(b.value) == 0:
		return b.kids[last].under([]byte{byte(last)})
	}
	return b
}

func (b branch) under(path []byte) tree {
	if len(path) == 0 {
		return b
	}
	return extension{path, b}
}

func (b branch) each(path []byte, yield func(path, value []byte) bool) bool {
	if len(b.value) > 0 && !yield(path, b.value) {
		return false
	}
	for i, kid := range b.kids {
		if kid != nil && !kid.each(slices.Concat(path, []byte{byte(i)}), yield) {
			return false
		}
	}
	return true
}

func (b branch) node(w *writer) api.Node {
	refs := make([]api.Ref, kidsCount)
	for i, kid := range b.kids {
		if kid != nil {
			refs[i] = w.refer(kid)
		}
	}
	return api.Node{Kind: api.Branch, Kids: refs, Value: b.value}
}
