package digest

import (
	"math/bits"

	"pergola/api"
)

const (
	pieceBytes = 32
	lengthAt   = 24 // where the text's length stands in the last piece
	rounds     = 8
	oddWord    = 0x9e3779b97f4a7c15 // the chapter's K
)

// start is the state ahead of all pieces.
func start() [4]uint64 {
	k := uint64(oddWord) // a variable: a product of constants must not wrap
	return [4]uint64{k, 2 * k, 3 * k, 4 * k}
}

// mix takes the words of one piece into the state.
func mix(state, m [4]uint64) [4]uint64 {
	mixed := stir(xor(state, m), m)
	return xor(mixed, state)
}

// stir does the rounds. It goes through the piece's words again and again; the last round ends both loops.
func stir(s, m [4]uint64) [4]uint64 {
	r := uint64(1)
stirring:
	for {
		for _, w := range m {
			s = round(s, w+r*oddWord)
			if r == rounds {
				break stirring
			}
			r++
		}
	}
	return s
}

// round does one round; w is all that a takes beside b.
func round(s [4]uint64, w uint64) [4]uint64 {
	a, b, c, d := s[0], s[1], s[2], s[3]
	a += b + w
	d = bits.RotateLeft64(d^a, 32)
	c += d
	b = bits.RotateLeft64(b^c, 24)
	a += b
	d = bits.RotateLeft64(d^a, 16)
	c += d
	b = bits.RotateLeft64(b^c, 63)
	return [4]uint64{b, c, d, a}
}

func xor(x, y [4]uint64) [4]uint64 {
	for i, w := range y {
		x[i] ^= w
	}
	return x
}

// wordsOf reads the four words of a piece.
func wordsOf(piece [pieceBytes]byte) [4]uint64 {
	var m [4]uint64
	for i, b := range piece {
		m[i/8] = m[i/8]<<8 | uint64(b)
	}
	return m
}

// bytesOf writes four words.
func bytesOf(m [4]uint64) api.Digest {
	var d api.Digest
	for i := range d {
		d[i] = byte(m[i/8] >> (56 - 8*(i%8)))
	}
	return d
}
