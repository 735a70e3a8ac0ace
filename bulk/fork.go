package bulk

import (
	"pergola/api"
	"pergola/node"
)

const kidsCount = 16

// fork is a place on a path where keys part, or where one ends: a branch, or, as long as it has no kids, a leaf.
type fork struct {
	depth int // how many nibbles lead there
	kids  [kidsCount]api.Ref
	value []byte // of the key that ends there; empty: there is none
}

// closed is a way along a path behind the naming of all forks that are deeper than depth: each of them becomes a kid of the one above it. The last one that is left lies at depth itself.
func closed(way []fork, path []byte, depth int) []fork {
	for {
		last := len(way) - 1
		whole := way[last]
		if whole.depth == depth {
			return way
		}
		way = way[:last]
		if last == 0 || way[last-1].depth < depth {
			way = append(way, fork{depth: depth})
		}
		above := len(way) - 1
		from := way[above].depth
		way[above].kids[path[from]] = node.Refer(whole.encoding(path[from+1 : whole.depth]))
	}
}

// encoding is that of the node which hangs where this path is left to the fork.
func (f fork) encoding(path []byte) []byte {
	if !f.parts() {
		return encode(api.Node{Kind: api.Leaf, Path: path, Value: f.value})
	}
	b := encode(api.Node{Kind: api.Branch, Kids: f.kids[:], Value: f.value})
	if len(path) == 0 {
		return b
	}
	return encode(api.Node{Kind: api.Ext, Path: path, Child: node.Refer(b)})
}

// parts tells whether keys go on behind the fork.
func (f fork) parts() bool {
	for _, r := range f.kids {
		if r.Kind != api.RefNone {
			return true
		}
	}
	return false
}

func encode(n api.Node) []byte {
	// Keys in order part as they do in a trie in its normal form, in which every node is right: none is refused.
	b, _ := node.Encode(n)
	return b
}
