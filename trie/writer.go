package trie

import (
	"pergola/api"
	"pergola/node"
)

// writer writes trees, and keeps the encodings of all nodes that were named by digests meanwhile.
type writer struct {
	named [][]byte
}

// encode tells the encoding of a tree's topmost node.
func (w *writer) encode(t tree) []byte {
	// In the normal form every node is right: none is refused.
	b, _ := node.Encode(t.node(w))
	return b
}

// refer tells how a tree's topmost node is named by its parent.
func (w *writer) refer(t tree) api.Ref {
	b := w.encode(t)
	r := node.Refer(b)
	if r.Kind == api.RefDigest {
		w.named = append(w.named, b)
	}
	return r
}
