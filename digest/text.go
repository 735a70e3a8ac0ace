package digest

import "pergola/api"

const (
	digits    = "0123456789abcdef"
	textBytes = 64
)

// Less is the order of digests.
func Less(a, b api.Digest) bool {
	for i, x := range a {
		if x != b[i] {
			return x < b[i]
		}
	}
	return false
}

// Print writes one as text.
func Print(d api.Digest) string {
	var text [textBytes]byte
	for i, b := range d {
		text[2*i] = digits[b>>4]
		text[2*i+1] = digits[b&15]
	}
	return string(text[:])
}

// Parse reads one.
func Parse(s string) (api.Digest, bool) {
	if len(s) != textBytes {
		return api.Digest{}, false
	}
	var d api.Digest
	for i := range d {
		high, okHigh := digit(s[2*i])
		low, okLow := digit(s[2*i+1])
		if !okHigh || !okLow {
			return api.Digest{}, false
		}
		d[i] = high<<4 | low
	}
	return d, true
}

// digit reads one digit. Capitals are none, so that each digest has one text.
func digit(c byte) (byte, bool) {
	switch {
	case '0' <= c && c <= '9':
		return c - '0', true
	case 'a' <= c && c <= 'f':
		return c - 'a' + 10, true
	}
	return 0, false
}
