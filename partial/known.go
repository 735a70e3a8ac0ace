package partial

import (
	"pergola/api"
	"pergola/digest"
	"pergola/node"
)

// mostPath is how many nibbles the longest key has.
const mostPath = 2 * api.MaxKey

// knownBy tells by each digest the first of the nodes that has it, and that node.Decode takes.
func knownBy(nodes [][]byte) map[api.Digest]thing {
	known := map[api.Digest]thing{}
	for _, b := range nodes {
		d := digest.Of(b)
		if known[d] != nil {
			continue
		}
		if n, e := node.Decode(b); e == api.OK {
			known[d] = thingOf(n)
		}
	}
	return known
}

// thingOf is a node with those that stand inline in it; where it names others by their digests there are stubs.
func thingOf(n api.Node) thing {
	switch n.Kind {
	case api.Leaf:
		return leaf{n.Path, n.Value}
	case api.Ext:
		return extension{n.Path, named(n.Child)}
	}
	b := branch{value: n.Value}
	for i, r := range n.Kids {
		b.kids[i] = named(r)
	}
	return b
}

func named(r api.Ref) thing {
	switch r.Kind {
	case api.RefInline:
		// What stands inline in a right node is one itself.
		n, _ := node.Decode(r.Inline)
		return thingOf(n)
	case api.RefDigest:
		return stub(r.Digest)
	}
	return nil
}

// fits tells whether no path that begins at the topmost node is longer than a key may be: that of t, to which lead nibbles lead, and of each node that stands in it.
func fits(t thing, lead int) bool {
	switch t := t.(type) {
	case leaf:
		return lead+len(t.path) <= mostPath
	case extension:
		lead += len(t.path)
		return lead <= mostPath && fits(t.child, lead)
	case branch:
		for _, kid := range t.kids {
			if !fits(kid, lead+1) {
				return false
			}
		}
		return lead <= mostPath
	}
	// A stub is asked where it is looked for.
	return true
}
