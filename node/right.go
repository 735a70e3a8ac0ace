package node

import (
	"pergola/api"
	"pergola/nibbles"
)

const (
	mostPath  = 2 * api.MaxKey
	kidsCount = 16
)

// Each of these asks one field of a node: a kind of which more is asked than of another one falls through to it.

func rightPath(n api.Node) bool {
	switch n.Kind {
	case api.Ext:
		if len(n.Path) == 0 {
			return false
		}
		fallthrough
	case api.Leaf:
		return len(n.Path) <= mostPath && nibbles.Right(n.Path)
	}
	return len(n.Path) == 0
}

func rightValue(n api.Node) bool {
	switch n.Kind {
	case api.Leaf:
		if len(n.Value) == 0 {
			return false
		}
		fallthrough
	case api.Branch:
		return len(n.Value) <= api.MaxValue
	}
	return len(n.Value) == 0
}

func rightChild(n api.Node) bool {
	if !rightRef(n.Child) {
		return false
	}
	if n.Kind != api.Ext {
		return n.Child.Kind == api.RefNone
	}
	return n.Child.Kind == api.RefDigest || inlineKind(n.Child) == api.Branch
}

func rightKids(n api.Node) bool {
	if n.Kind != api.Branch {
		return len(n.Kids) == 0
	}
	if len(n.Kids) != kidsCount {
		return false
	}
	ways := 0
	if len(n.Value) > 0 {
		ways++
	}
	for _, r := range n.Kids {
		if !rightRef(r) {
			return false
		}
		if r.Kind != api.RefNone {
			ways++
		}
	}
	return ways >= 2
}

// rightRef tells whether a reference may be.
func rightRef(r api.Ref) bool {
	switch r.Kind {
	case api.RefNone:
		if r.Digest != (api.Digest{}) {
			return false
		}
		fallthrough
	case api.RefDigest:
		return len(r.Inline) == 0
	case api.RefInline:
		// The length is asked first: it is what makes nodes within nodes end.
		return r.Digest == api.Digest{} && len(r.Inline) < digestSize && inlineKind(r) != 0
	}
	return false
}

// inlineKind tells the kind of the node that a reference has in it; 0 of a reference without one.
func inlineKind(r api.Ref) int {
	n, _ := Decode(r.Inline)
	return n.Kind
}
