package partial

import (
	"pergola/api"
	"pergola/digest"
	"pergola/node"
)

// refer tells a thing's name. What stands inline in a found node is named so by its encoding, too.
func refer(t thing) api.Ref {
	switch t := t.(type) {
	case nil:
		return api.Ref{}
	case stub:
		return api.Ref{Kind: api.RefDigest, Digest: api.Digest(t)}
	}
	return node.Refer(encode(t))
}

// rootOf is the name of a topmost thing.
func rootOf(t thing) api.Digest {
	switch t := t.(type) {
	case nil:
		return node.EmptyRoot()
	case stub:
		return api.Digest(t)
	}
	return digest.Of(encode(t))
}

// encode tells the encoding of a node. All nodes here are right: none is refused.
func encode(t thing) []byte {
	b, _ := node.Encode(nodeOf(t))
	return b
}

func nodeOf(t thing) api.Node {
	switch t := t.(type) {
	case leaf:
		return api.Node{Kind: api.Leaf, Path: t.path, Value: t.value}
	case extension:
		return api.Node{Kind: api.Ext, Path: t.path, Child: refer(t.child)}
	case branch:
		refs := make([]api.Ref, kidsCount)
		for i, kid := range t.kids {
			refs[i] = refer(kid)
		}
		return api.Node{Kind: api.Branch, Kids: refs, Value: t.value}
	}
	return api.Node{}
}
