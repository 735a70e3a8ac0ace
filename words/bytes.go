package words

const wordBytes = 8

// Bytes writes a word in as few bytes as may be, Read reads one; false: it is not written so.
func Bytes(n uint64) []byte {
	return lowBytes(n, bytesIn(n))
}

func Read(b []byte) (uint64, bool) {
	// Only one of a word's writings is read: that without a 0 ahead.
	if len(b) > wordBytes || len(b) > 0 && b[0] == 0 {
		return 0, false
	}
	return valueOf(b), true
}

// Key writes a word in eight bytes; Word reads eight.
func Key(n uint64) []byte {
	return lowBytes(n, wordBytes)
}

func Word(b []byte) (uint64, bool) {
	if len(b) != wordBytes {
		return 0, false
	}
	return valueOf(b), true
}

// bytesIn tells how many bytes n needs.
func bytesIn(n uint64) int {
	for count := range wordBytes {
		if n>>(8*count) == 0 {
			return count
		}
	}
	return wordBytes
}

// lowBytes tells the lowest count bytes of n, the highest of them first.
func lowBytes(n uint64, count int) []byte {
	b := make([]byte, count)
	for i := range count {
		b[count-1-i] = byte(n >> (8 * i))
	}
	return b
}

// valueOf is for at most eight bytes: more would push the first ones out.
func valueOf(b []byte) uint64 {
	var n uint64
	for i := range len(b) {
		n = n<<8 | uint64(b[i])
	}
	return n
}
