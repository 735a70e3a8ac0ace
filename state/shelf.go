package state

import (
	"bytes"
	"slices"

	"pergola/api"
)

// shelf has codes by their digests: unlike ones of one digest in the order in which they were laid in. Its lists, and the codes, are never written over, so that shelves share them.
type shelf map[api.Digest][][]byte

// add lays in a copy of a code, if it is not there.
func (s shelf) add(d api.Digest, code []byte) {
	alike := func(other []byte) bool { return bytes.Equal(other, code) }
	if !slices.ContainsFunc(s[d], alike) {
		s[d] = append(slices.Clip(s[d]), bytes.Clone(code))
	}
}

// first tells the code of a digest that was laid in first. It is the shelf's own.
func (s shelf) first(d api.Digest) ([]byte, bool) {
	if len(s[d]) == 0 {
		return nil, false
	}
	return s[d][0], true
}

// all tells copies of all codes, in no order.
func (s shelf) all() [][]byte {
	var l [][]byte
	for _, codes := range s {
		for _, code := range codes {
			l = append(l, bytes.Clone(code))
		}
	}
	return l
}

// once sorts texts, and lets go of those that are there already.
func once(l [][]byte) [][]byte {
	slices.SortFunc(l, bytes.Compare)
	return slices.CompactFunc(l, bytes.Equal)
}
