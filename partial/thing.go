package partial

import (
	"bytes"
	"slices"

	"pergola/api"
	"pergola/nibbles"
)

const kidsCount = 16

// thing is what stands somewhere in the tree, with all that is below: a stub, a leaf, an extension or a branch; nil: nothing. It never changes, nor do its paths and values, so that trees share it.
type thing any

// stub is the digest of a node. A node that was found leaves it in its place until it is made anew: so the name stays the one by which the parent has it, and whoever comes there again finds the same node.
type stub api.Digest

type leaf struct {
	path, value []byte
}

type extension struct {
	path  []byte
	child thing
}

type branch struct {
	kids  [kidsCount]thing
	value []byte // empty: there is none
}

// with is what stands at the end of a key's way, where rest is left of the key, once that has the value.
func with(t thing, rest, value []byte) thing {
	switch t := t.(type) {
	case leaf:
		if bytes.Equal(t.path, rest) {
			return leaf{rest, value}
		}
		n := nibbles.Common(t.path, rest)
		return under(branch{}.plus(t.path[n:], t.value).plus(rest[n:], value), rest[:n])
	case extension:
		n := nibbles.Common(t.path, rest)
		var fork branch
		fork.kids[t.path[n]] = t.behind(n + 1)
		return under(fork.plus(rest[n:], value), rest[:n])
	case branch:
		return t.plus(rest, value)
	}
	return leaf{rest, value}
}

// plus is the branch with the value of a key of which rest is left there: its own, or that of a leaf where there was nothing.
func (b branch) plus(rest, value []byte) branch {
	if len(rest) == 0 {
		b.value = value
	} else {
		b.kids[rest[0]] = leaf{rest[1:], value}
	}
	return b
}

// behind is what there is of an extension behind so many of its nibbles.
func (e extension) behind(n int) thing {
	if n == len(e.path) {
		return e.child
	}
	return extension{e.path[n:], e.child}
}

// under is a thing with a path ahead of it; a stub must be a branch's.
func under(t thing, path []byte) thing {
	if len(path) == 0 {
		return t
	}
	switch t := t.(type) {
	case leaf:
		return leaf{slices.Concat(path, t.path), t.value}
	case extension:
		return extension{slices.Concat(path, t.path), t.child}
	}
	return extension{path, t}
}
