package proof

import (
	"bytes"

	"pergola/api"
	"pergola/digest"
	"pergola/node"
)

// valueBy goes the way of a key, of which rest is left at the root, by the things of l. It tells the value that the key has, none if it has none; false: l is no proof.
func valueBy(root api.Digest, rest []byte, l [][]byte) ([]byte, bool) {
	name := api.Ref{Kind: api.RefDigest, Digest: root}
	belowExtension := false
next:
	n, l, ok := open(name, l)
	if !ok || belowExtension && n.Kind != api.Branch {
		return nil, false
	}
	if kid, behind, on := follow(n, rest); on {
		name, rest, belowExtension = kid, behind, n.Kind == api.Ext
		goto next
	}
	if len(l) > 0 {
		return nil, false
	}
	return valueAt(n, rest), true
}

// open tells the node of a name, and what is left of l behind it: a node that is named by its digest must be the next thing there.
func open(name api.Ref, l [][]byte) (api.Node, [][]byte, bool) {
	b := name.Inline
	if name.Kind == api.RefDigest {
		if len(l) == 0 || digest.Of(l[0]) != name.Digest {
			return api.Node{}, nil, false
		}
		b, l = l[0], l[1:]
	}
	n, e := node.Decode(b)
	return n, l, e == api.OK
}

// follow tells the name of the node that is next on a key's way, and what is left of the key there; false: the way ends at n.
func follow(n api.Node, rest []byte) (api.Ref, []byte, bool) {
	switch {
	case n.Kind == api.Branch && len(rest) > 0:
		kid := n.Kids[rest[0]]
		return kid, rest[1:], kid.Kind != api.RefNone
	case n.Kind == api.Ext && bytes.HasPrefix(rest, n.Path):
		return n.Child, rest[len(n.Path):], true
	}
	return api.Ref{}, nil, false
}

// valueAt tells the value of the key whose way ends at n, with rest left. The kinds need not be asked: a branch has no path, and an extension no value.
func valueAt(n api.Node, rest []byte) []byte {
	if !bytes.Equal(n.Path, rest) {
		return nil
	}
	return n.Value
}
