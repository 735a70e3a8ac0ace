package words

// textBytes is how many digits 2^64 - 1 has.
const textBytes = 20

// Print writes a word as text, Parse reads one.
func Print(n uint64) string {
	var text [textBytes]byte
	start := textBytes
	for i := range textBytes {
		// The lowest digit is written even if it is a nought: 0 has a text too.
		if n == 0 && i > 0 {
			break
		}
		start--
		text[start] = '0' + byte(n%10)
		n /= 10
	}
	return string(text[start:])
}

func Parse(s string) (uint64, bool) {
	if len(s) == 0 || len(s) > textBytes || len(s) > 1 && s[0] == '0' {
		return 0, false
	}
	var n uint64
	for i := range len(s) {
		next, ok := withDigit(n, s[i])
		if !ok {
			return 0, false
		}
		n = next
	}
	return n, true
}

// withDigit tells the word whose text is that of n and the digit c behind it.
func withDigit(n uint64, c byte) (uint64, bool) {
	if c < '0' || c > '9' {
		return 0, false
	}
	tens, ok := Mul(n, 10)
	if !ok {
		return 0, false
	}
	return Add(tens, uint64(c-'0'))
}
