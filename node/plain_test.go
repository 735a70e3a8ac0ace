package node_test

import (
	"bytes"
	"encoding/hex"
	"strings"

	"pergola/api"
)

// The chapter worked out on bytes as they stand, without items: what the package is held against.

func plainRight(n api.Node) bool {
	noPath, noValue, noKids := len(n.Path) == 0, len(n.Value) == 0, len(n.Kids) == 0
	noChild := n.Child.Kind == 0 && n.Child.Digest == api.Digest{} && len(n.Child.Inline) == 0
	switch n.Kind {
	case 1:
		return plainPath(n.Path) && !noValue && len(n.Value) <= 256 && noChild && noKids
	case 2:
		return plainPath(n.Path) && !noPath && noValue && !noChild && plainRef(n.Child) && plainToBranch(n.Child) && noKids
	case 3:
		return noPath && len(n.Value) <= 256 && noChild && len(n.Kids) == 16 && plainKids(n)
	}
	return false
}

func plainPath(p []byte) bool {
	for _, n := range p {
		if n > 15 {
			return false
		}
	}
	return len(p) <= 64
}

func plainToBranch(r api.Ref) bool {
	n, _ := plainDecode(r.Inline)
	return r.Kind == 2 || n.Kind == 3
}

func plainKids(n api.Node) bool {
	count := min(len(n.Value), 1)
	for _, r := range n.Kids {
		if !plainRef(r) {
			return false
		}
		count += min(r.Kind, 1)
	}
	return count >= 2
}

func plainRef(r api.Ref) bool {
	noDigest, noInline := r.Digest == api.Digest{}, len(r.Inline) == 0
	switch r.Kind {
	case 0:
		return noDigest && noInline
	case 1:
		_, ok := plainDecode(r.Inline)
		return noDigest && len(r.Inline) < 32 && ok
	case 2:
		return noInline
	}
	return false
}

// plainEncode is the chapter's table; it asks nothing.
func plainEncode(n api.Node) []byte {
	switch n.Kind {
	case 1:
		return plainList(plainText(plainPack(n.Path, 2)), plainText(n.Value))
	case 2:
		return plainList(plainText(plainPack(n.Path, 0)), plainName(n.Child))
	}
	var l [][]byte
	for _, r := range n.Kids {
		l = append(l, plainName(r))
	}
	return plainList(append(l, plainText(n.Value))...)
}

// plainName tells the bytes of a reference: an inline node stands there as it is.
func plainName(r api.Ref) []byte {
	switch r.Kind {
	case 1:
		return r.Inline
	case 2:
		return append([]byte{128 + 32}, r.Digest[:]...)
	}
	return []byte{128}
}

func plainPack(p []byte, flag byte) []byte {
	l := append([]byte{flag + 1}, p...)
	if len(p)%2 == 0 {
		l = append([]byte{flag, 0}, p...)
	}
	var b []byte
	for i := 0; i < len(l); i += 2 {
		b = append(b, l[i]*16+l[i+1])
	}
	return b
}

func plainText(b []byte) []byte {
	if len(b) == 1 && b[0] < 128 {
		return []byte{b[0]}
	}
	return append(plainHead(128, len(b)), b...)
}

func plainList(l ...[]byte) []byte {
	body := bytes.Join(l, nil)
	return append(plainHead(192, len(body)), body...)
}

func plainHead(first, n int) []byte {
	switch {
	case n < 56:
		return []byte{byte(first + n)}
	case n < 256:
		return []byte{byte(first + 56), byte(n)}
	}
	return []byte{byte(first + 57), byte(n / 256), byte(n % 256)}
}

// piece is an item as it stands in bytes: all of them, and those behind its head.
type piece struct {
	list        bool
	whole, body []byte
}

// cut tells the piece that b begins with; none, if it has more than 65535 bytes behind its head, as no node has.
func cut(b []byte) (piece, bool) {
	f := int(b[0])
	if f < 128 {
		return piece{whole: b[:1], body: b[:1]}, true
	}
	first := f / 64 * 64
	size := 1 + max(f-first-55, 0)
	if size > 3 || len(b) < size {
		return piece{}, false
	}
	n := f - first
	if size > 1 {
		n = 0
	}
	for _, c := range b[1:size] {
		n = n*256 + int(c)
	}
	if len(b)-size < n {
		return piece{}, false
	}
	x := piece{list: first == 192, whole: b[:size+n], body: b[size : size+n]}
	right := bytes.Equal(plainHead(first, n), b[:size])
	return x, right && (x.list || bytes.Equal(plainText(x.body), x.whole))
}

// pieces tells what bytes are made of, down to lists of no lists, of which at most so many may be in one another.
func pieces(b []byte, lists int) ([]piece, bool) {
	var l []piece
	for len(b) > 0 {
		x, ok := cut(b)
		if !ok {
			return nil, false
		}
		if x.list {
			if _, ok := pieces(x.body, lists-1); !ok || lists == 0 {
				return nil, false
			}
		}
		l = append(l, x)
		b = b[len(x.whole):]
	}
	return l, true
}

func plainDecode(b []byte) (api.Node, bool) {
	whole, ok := pieces(b, 8)
	if !ok || len(whole) != 1 || !whole[0].list {
		return api.Node{}, false
	}
	l, _ := pieces(whole[0].body, 7)
	n := plainShape(l)
	// A shape of which anything was left out is written otherwise.
	if !plainRight(n) || !bytes.Equal(plainEncode(n), b) {
		return api.Node{}, false
	}
	return n, true
}

func plainShape(l []piece) api.Node {
	if len(l) == 17 {
		n := api.Node{Kind: 3, Value: l[16].body}
		for _, x := range l[:16] {
			n.Kids = append(n.Kids, plainReference(x))
		}
		return n
	}
	if len(l) != 2 || len(l[0].body) == 0 {
		return api.Node{}
	}
	text := hex.EncodeToString(l[0].body)
	flag := strings.IndexByte("0123", text[0])
	path := nibblesOf(text[2-max(flag, 0)%2:])
	switch flag {
	case 0, 1:
		return api.Node{Kind: 2, Path: path, Child: plainReference(l[1])}
	case 2, 3:
		return api.Node{Kind: 1, Path: path, Value: l[1].body}
	}
	return api.Node{}
}

func plainReference(x piece) api.Ref {
	switch {
	case x.list:
		return api.Ref{Kind: 1, Inline: x.whole}
	case len(x.body) == 0:
		return api.Ref{}
	}
	r := api.Ref{Kind: 2}
	copy(r.Digest[:], x.body)
	return r
}

// nibblesOf tells the path that a text of hexadecimal digits spells.
func nibblesOf(text string) []byte {
	var p []byte
	for _, c := range text {
		p = append(p, byte(strings.IndexRune("0123456789abcdef", c)))
	}
	return p
}

func sameRef(r, s api.Ref) bool {
	return r.Kind == s.Kind && r.Digest == s.Digest && bytes.Equal(r.Inline, s.Inline)
}

func sameNode(n, m api.Node) bool {
	if n.Kind != m.Kind || !bytes.Equal(n.Path, m.Path) || !bytes.Equal(n.Value, m.Value) || !sameRef(n.Child, m.Child) || len(n.Kids) != len(m.Kids) {
		return false
	}
	for i := range n.Kids {
		if !sameRef(n.Kids[i], m.Kids[i]) {
			return false
		}
	}
	return true
}

func nothing(n api.Node) bool { return sameNode(n, api.Node{}) }
