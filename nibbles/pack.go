package nibbles

import "pergola/api"

// The flag that a packed path begins with; a 0 fills the flag's byte where the path does not.
const (
	flagOdd  = 1
	flagLeaf = 2
	flagMost = flagOdd | flagLeaf
)

// Pack writes a path, and whether it is a leaf's; Unpack reads one.
func Pack(p []byte, leaf bool) ([]byte, api.Errno) {
	// With its head a path is of an even number of nibbles: Key refuses only what is not Right.
	b, ok := Key(append(head(len(p), leaf), p...))
	if !ok {
		return nil, api.ErrNibblesForm
	}
	return b, api.OK
}

func Unpack(b []byte) ([]byte, bool, api.Errno) {
	if len(b) == 0 {
		return nil, false, api.ErrNibblesForm
	}
	flag, second := b[0]>>4, b[0]&most
	odd, leaf := flag&flagOdd != 0, flag&flagLeaf != 0
	if flag > flagMost || !odd && second != 0 {
		return nil, false, api.ErrNibblesForm
	}
	if odd {
		return behind(Of(b), 1), leaf, api.OK
	}
	return behind(Of(b), 2), leaf, api.OK
}

// head tells the nibbles that stand ahead of a path of n nibbles.
func head(n int, leaf bool) []byte {
	var flag byte
	if leaf {
		flag = flagLeaf
	}
	if n%2 != 0 {
		return []byte{flag | flagOdd}
	}
	return []byte{flag, 0}
}
