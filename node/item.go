package node

import (
	"pergola/api"
	"pergola/nest"
	"pergola/nibbles"
)

// itemOf tells the list that a right node is written as.
func itemOf(n api.Node) api.Item {
	if n.Kind == api.Branch {
		return branchItem(n)
	}
	packed, _ := nibbles.Pack(n.Path, n.Kind == api.Leaf)
	if n.Kind == api.Leaf {
		return nest.List(nest.Text(packed), nest.Text(n.Value))
	}
	return nest.List(nest.Text(packed), refItem(n.Child))
}

func branchItem(n api.Node) api.Item {
	var l []api.Item
	for _, r := range n.Kids {
		l = append(l, refItem(r))
	}
	return nest.List(append(l, nest.Text(n.Value))...)
}

func refItem(r api.Ref) api.Item {
	switch r.Kind {
	case api.RefInline:
		x, _ := nest.Decode(r.Inline)
		return x
	case api.RefDigest:
		return nest.Text(r.Digest[:])
	}
	return nest.Text(nil)
}

// nodeOf tells the node that an item has the shape of; whether that node is right is asked of it later.
func nodeOf(x api.Item) (api.Node, bool) {
	switch len(x.Items) {
	case 2:
		return pathNode(x.Items[0], x.Items[1])
	case kidsCount + 1:
		return branchNode(x.Items[:kidsCount], x.Items[kidsCount])
	}
	return api.Node{}, false
}

func pathNode(packed, behind api.Item) (api.Node, bool) {
	path, leaf, e := nibbles.Unpack(packed.Bytes)
	if packed.List || e != api.OK {
		return api.Node{}, false
	}
	if leaf {
		return api.Node{Kind: api.Leaf, Path: path, Value: behind.Bytes}, !behind.List
	}
	child, ok := refOf(behind)
	return api.Node{Kind: api.Ext, Path: path, Child: child}, ok
}

func branchNode(kids []api.Item, value api.Item) (api.Node, bool) {
	n := api.Node{Kind: api.Branch, Value: value.Bytes, Kids: make([]api.Ref, kidsCount)}
	for i, x := range kids {
		r, ok := refOf(x)
		if !ok {
			return api.Node{}, false
		}
		n.Kids[i] = r
	}
	return n, !value.List
}

// refOf tells the reference that an item has the shape of.
func refOf(x api.Item) (api.Ref, bool) {
	if x.List {
		b, e := nest.Encode(x)
		return api.Ref{Kind: api.RefInline, Inline: b}, e == api.OK
	}
	switch len(x.Bytes) {
	case 0:
		return api.Ref{}, true
	case digestSize:
		r := api.Ref{Kind: api.RefDigest}
		copy(r.Digest[:], x.Bytes)
		return r, true
	}
	return api.Ref{}, false
}
