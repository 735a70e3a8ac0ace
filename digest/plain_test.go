package digest_test

import (
	"encoding/binary"
	"math/bits"

	"pergola/api"
)

// plain works the digest out step by step as the chapter tells it, with the whole padded text at hand; it shares nothing with the package.
func plain(text []byte) api.Digest {
	const k = uint64(0x9e3779b97f4a7c15)
	padded := append(append([]byte{}, text...), 0x80)
	for len(padded)%32 != 24 {
		padded = append(padded, 0)
	}
	padded = binary.BigEndian.AppendUint64(padded, uint64(len(text)))
	var a, b, c, d uint64
	for i := 0; i < 4; i++ {
		a, b, c, d = b, c, d, d+k
	}
	for ; len(padded) > 0; padded = padded[32:] {
		var m [4]uint64
		for i := range m {
			m[i] = binary.BigEndian.Uint64(padded[8*i:])
		}
		pa, pb, pc, pd := a, b, c, d
		a, b, c, d = a^m[0], b^m[1], c^m[2], d^m[3]
		for r := 0; r < 8; r++ {
			a = a + b + m[r%4] + uint64(r+1)*k
			d = bits.RotateLeft64(d^a, 32)
			c = c + d
			b = bits.RotateLeft64(b^c, 24)
			a = a + b
			d = bits.RotateLeft64(d^a, 16)
			c = c + d
			b = bits.RotateLeft64(b^c, 63)
			a, b, c, d = b, c, d, a
		}
		a, b, c, d = a^pa, b^pb, c^pc, d^pd
	}
	var out api.Digest
	for i, w := range []uint64{a, b, c, d} {
		binary.BigEndian.PutUint64(out[8*i:], w)
	}
	return out
}
