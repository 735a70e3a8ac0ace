package node_test

import (
	"bytes"
	"slices"
	"testing"

	"pergola/api"
	"pergola/node"
)

// scribble writes over a list and its spare room.
func scribble(b []byte) {
	all := b[:cap(b)]
	for i := range all {
		all[i] ^= 0xa5
	}
}

// lists are the lists of bytes that a node has.
func lists(n api.Node) [][]byte {
	l := [][]byte{n.Path, n.Value, n.Child.Inline}
	for _, r := range n.Kids[:cap(n.Kids)] {
		l = append(l, r.Inline)
	}
	return l
}

// scribbleNode writes over all that a node has, and its spare room.
func scribbleNode(n api.Node) {
	for _, b := range lists(n) {
		scribble(b)
	}
	kids := n.Kids[:cap(n.Kids)]
	for i := range kids {
		kids[i] = api.Ref{Kind: 7, Digest: api.Digest{9}, Inline: []byte("over")}
	}
}

const spare = "\x01\x02\x03\x04 spare room"

// roomy is a copy with spare room behind its end.
func roomy(b []byte) []byte {
	return append(bytes.Clone(b), spare...)[:len(b)]
}

func roomyRef(r api.Ref) api.Ref {
	r.Inline = roomy(r.Inline)
	return r
}

// roomyNode is a copy of a node, with spare room behind each of its lists.
func roomyNode(n api.Node) api.Node {
	c := api.Node{Kind: n.Kind, Path: roomy(n.Path), Value: roomy(n.Value), Child: roomyRef(n.Child)}
	for _, r := range n.Kids {
		c.Kids = append(c.Kids, roomyRef(r))
	}
	c.Kids = append(c.Kids, api.Ref{Kind: 2, Digest: api.Digest{4}, Inline: []byte(spare)})[:len(n.Kids)]
	return c
}

// whole tells a node's lists with their spare room in them.
func whole(n api.Node) api.Node {
	c := api.Node{Kind: n.Kind, Path: n.Path[:cap(n.Path)], Value: n.Value[:cap(n.Value)], Child: n.Child}
	c.Child.Inline = n.Child.Inline[:cap(n.Child.Inline)]
	for _, r := range n.Kids[:cap(n.Kids)] {
		r.Inline = r.Inline[:cap(r.Inline)]
		c.Kids = append(c.Kids, r)
	}
	return c
}

func copyOf(n api.Node) api.Node {
	c := api.Node{Kind: n.Kind, Path: bytes.Clone(n.Path), Value: bytes.Clone(n.Value), Child: n.Child}
	c.Child.Inline = bytes.Clone(n.Child.Inline)
	for _, r := range n.Kids {
		r.Inline = bytes.Clone(r.Inline)
		c.Kids = append(c.Kids, r)
	}
	return c
}

// wrongToo are right nodes, and each with something wrong.
func wrongToo() []api.Node {
	var l []api.Node
	for _, n := range short() {
		kind, path, kids := n, n, n
		kind.Kind = 4
		path.Path = append(bytes.Clone(n.Path), 16)
		kids.Kids = append(slices.Clone(n.Kids), within(small))
		l = append(l, n, kind, path, kids)
	}
	return l
}

func TestR5WhatIsHandedInStaysAsItIs(t *testing.T) {
	for _, n := range wrongToo() {
		given := roomyNode(n)
		all := copyOf(whole(given))
		node.Right(given)
		b, _ := node.Encode(given)
		scribble(b)
		if !sameNode(whole(given), all) {
			t.Fatalf("R5: what was handed in, or its spare room, became %+v", whole(given))
		}
	}
	for _, n := range short() {
		for _, b := range [][]byte{plainEncode(n), plainEncode(n)[1:], bytes.Repeat(plainEncode(n), 2)} {
			given := roomy(b)
			all := bytes.Clone(given[:cap(given)])
			m, _ := node.Decode(given)
			scribbleNode(m)
			scribble(node.Refer(given).Inline)
			if !bytes.Equal(given[:cap(given)], all) {
				t.Fatalf("R5: the bytes %x, or their spare room, became %x", b, given[:cap(given)])
			}
		}
	}
}

func TestR5WhatIsHandedInIsNotKept(t *testing.T) {
	for _, n := range short() {
		want := plainEncode(n)
		given := roomyNode(n)
		b, _ := node.Encode(given)
		scribbleNode(given)
		if again, e := node.Encode(n); !bytes.Equal(b, want) || !bytes.Equal(again, want) || e != api.OK {
			t.Fatalf("R5: writing over a node that was handed in is seen in its encoding: %x, %x", b, again)
		}
		text := roomy(want)
		m, _ := node.Decode(text)
		r := node.Refer(text)
		scribble(text)
		if !sameNode(m, n) || !sameRef(r, node.Refer(want)) {
			t.Fatalf("R5: writing over bytes that were handed in is seen: %+v, %+v", m, r)
		}
		if m, e := node.Decode(want); !sameNode(m, n) || e != api.OK {
			t.Fatalf("R5: Decode(%x) = %+v %d, later", want, m, e)
		}
	}
}

func TestR5WhatIsToldIsNewMemory(t *testing.T) {
	for _, n := range short() {
		want := plainEncode(n)
		b, _ := node.Encode(n)
		c, _ := node.Encode(n)
		m, _ := node.Decode(want)
		o, _ := node.Decode(want)
		r, s := node.Refer(want), node.Refer(want)
		scribble(b)
		scribbleNode(m)
		scribble(r.Inline)
		if !bytes.Equal(c, want) || !sameNode(o, n) || !sameRef(s, node.Refer(plainEncode(n))) {
			t.Fatalf("R5: writing over what was told is seen in what was told else: %x, %+v, %+v", c, o, s)
		}
		again, _ := node.Encode(n)
		if p, _ := node.Decode(again); !bytes.Equal(again, want) || !sameNode(p, n) {
			t.Fatalf("R5: writing over what was told is seen later: %x, %+v", again, p)
		}
	}
}

func TestR5NoTwoListsOfOneAnswerShareMemory(t *testing.T) {
	same := within(small)
	nodes := append(short(), branch([]byte{6}, slices.Repeat([]api.Ref{same}, 16)...), branch(unhex("c22005"), same, same))
	for _, n := range nodes {
		want := plainEncode(n)
		first, _ := node.Decode(want)
		for i := range lists(first) {
			m, _ := node.Decode(want)
			kids := slices.Clone(m.Kids)
			all := lists(m)
			before := make([][]byte, len(all))
			for k, b := range all {
				before[k] = bytes.Clone(b[:cap(b)])
			}
			scribble(all[i])
			_ = append(all[i], "behind"...)
			for k, b := range all {
				if k != i && !bytes.Equal(b[:cap(b)], before[k]) {
					t.Fatalf("R5: Decode(%x): the list %d is seen in the list %d", want, i, k)
				}
			}
			for k, r := range m.Kids {
				if r.Kind != kids[k].Kind || r.Digest != kids[k].Digest {
					t.Fatalf("R5: Decode(%x): the list %d is seen in the kid %d", want, i, k)
				}
			}
		}
	}
}

func TestR4NilAndEmptyAreTheSame(t *testing.T) {
	for _, n := range short() {
		full := copyOf(n)
		for _, l := range []*[]byte{&full.Path, &full.Value, &full.Child.Inline} {
			if len(*l) == 0 {
				*l = []byte{}
			}
		}
		if len(full.Kids) == 0 {
			full.Kids = []api.Ref{}
		}
		for i := range full.Kids {
			if len(full.Kids[i].Inline) == 0 {
				full.Kids[i].Inline = []byte{}
			}
		}
		b, e := node.Encode(full)
		if !node.Right(full) || e != api.OK || !bytes.Equal(b, plainEncode(n)) {
			t.Fatalf("R4: of %+v with empty lists: %x %d", n, b, e)
		}
	}
	for _, b := range [][]byte{nil, {}} {
		if n, e := node.Decode(b); !nothing(n) || e != api.ErrNodeForm {
			t.Errorf("R4: Decode of nothing = %+v %d", n, e)
		}
		if r := node.Refer(b); !sameRef(r, api.Ref{Kind: api.RefInline}) {
			t.Errorf("R4: Refer of nothing = %+v", r)
		}
	}
}

func TestR3FieldsThatAKindDoesNotName(t *testing.T) {
	for _, n := range rightNodes() {
		m, _ := node.Decode(plainEncode(n))
		noPath, noValue, noKids, noChild := len(m.Path) == 0, len(m.Value) == 0, len(m.Kids) == 0, sameRef(m.Child, none)
		if m.Kind == api.Leaf && !(noChild && noKids) || m.Kind == api.Ext && !(noValue && noKids) || m.Kind == api.Branch && !(noPath && noChild) {
			t.Fatalf("R3: Decode tells a field that the kind has not: %+v", m)
		}
		for _, r := range append(m.Kids, m.Child) {
			if !plainRef(r) {
				t.Fatalf("R3: Decode tells a reference that is not right: %+v", r)
			}
		}
	}
}
