// Package digest is layer 1: 32 bytes that name a text of bytes: see shared/doc/01-digest.md.
package digest

import "pergola/api"

// Of tells the digest of some bytes.
func Of(b []byte) api.Digest {
	h := Hash{state: start()}
	h.Write(b)
	return h.Sum()
}

// Hash takes bytes piece by piece. All of it are values, so that a plain copy goes its own way.
type Hash struct {
	state [4]uint64
	tail  [pieceBytes]byte // its first taken % pieceBytes bytes are taken, but not yet mixed in
	taken int
}

// New has taken nothing.
func New() *Hash { return &Hash{state: start()} }

// Write takes some more.
func (h *Hash) Write(b []byte) {
	filled := h.taken % pieceBytes
	h.taken += len(b)
	if filled > 0 {
		n := copy(h.tail[filled:], b)
		if filled+n < pieceBytes {
			return
		}
		h.state = mix(h.state, wordsOf(h.tail))
		b = b[n:]
	}
	for len(b) >= pieceBytes {
		n := copy(h.tail[:], b)
		h.state = mix(h.state, wordsOf(h.tail))
		b = b[n:]
	}
	copy(h.tail[:], b)
}

// Sum tells the digest of all so far.
func (h *Hash) Sum() api.Digest {
	filled := h.taken % pieceBytes
	var last [pieceBytes]byte
	copy(last[:], h.tail[:filled])
	last[filled] = 0x80
	state := h.state
	if filled >= lengthAt {
		// The mark has taken some of the length's room: the length stands in a piece of its own.
		state = mix(state, wordsOf(last))
		last = [pieceBytes]byte{}
	}
	m := wordsOf(last)
	m[3] = uint64(h.taken)
	return bytesOf(mix(state, m))
}

// Len tells how many bytes were taken.
func (h *Hash) Len() int { return h.taken }

// Clone goes its own way.
func (h *Hash) Clone() *Hash {
	c := *h
	return &c
}
