package digest_test

import (
	"bytes"
	"encoding/hex"
	"slices"
	"strings"
	"testing"

	"pergola/api"
	"pergola/digest"
)

// some are digests of many kinds: with one byte set at each place, full ones, and those of texts.
func some() []api.Digest {
	full := api.Digest(bytes.Repeat([]byte{0xff}, 32))
	l := []api.Digest{{}, full}
	for i := range 32 {
		for _, b := range []byte{1, 0x0f, 0x7f, 0x80, 0xf0, 0xff} {
			one, gap := api.Digest{}, full
			one[i] = b
			gap[i] = b ^ 0xff
			l = append(l, one, gap)
		}
		l = append(l, digest.Of(made(i)))
	}
	return l
}

// P1.3: Less is the order of the 32 bytes.
func TestLess(t *testing.T) {
	zero, low, high := api.Digest{}, api.Digest{31: 1}, api.Digest{0: 0x80}
	for _, x := range []struct {
		a, b api.Digest
		want bool
	}{
		{zero, zero, false}, {zero, low, true}, {low, zero, false},
		{low, high, true}, {high, low, false}, {high, high, false},
		{api.Digest{0: 0x7f, 1: 0xff}, high, true},
		{api.Digest{7: 1}, api.Digest{8: 0xff}, false},
		{api.Digest{0: 1, 31: 2}, api.Digest{0: 1, 31: 3}, true},
		{api.Digest{0: 1, 31: 9}, api.Digest{0: 2}, true},
	} {
		if digest.Less(x.a, x.b) != x.want {
			t.Errorf("P1.3: Less(%x, %x)", x.a, x.b)
		}
	}
	for _, a := range some() {
		for _, b := range some() {
			if digest.Less(a, b) != (bytes.Compare(a[:], b[:]) < 0) {
				t.Errorf("P1.3: Less(%x, %x)", a, b)
			}
		}
	}
}

// P1.5: of two unlike digests just one is below the other; the texts are in the same order.
func TestLessIsAnOrder(t *testing.T) {
	for _, a := range some() {
		for _, b := range some() {
			below, above := digest.Less(a, b), digest.Less(b, a)
			if a == b && (below || above) || a != b && below == above {
				t.Errorf("P1.5: %x, %x: %v, %v", a, b, below, above)
			}
			if below != (digest.Print(a) < digest.Print(b)) {
				t.Errorf("P1.5: the texts of %x and %x are ordered otherwise", a, b)
			}
		}
	}
}

// P1.3: Print writes 64 small digits.
func TestPrint(t *testing.T) {
	if s := digest.Print(api.Digest{}); s != strings.Repeat("0", 64) {
		t.Error("P1.3: Print of zero:", s)
	}
	if s := digest.Print(api.Digest{0: 0x0a, 1: 0xf0, 31: 0x9e}); s != "0af0"+strings.Repeat("0", 58)+"9e" {
		t.Error("P1.3: Print:", s)
	}
	for _, d := range some() {
		if s := digest.Print(d); s != hex.EncodeToString(d[:]) {
			t.Errorf("P1.3: Print(%x): %s", d, s)
		}
	}
}

// P1.3 and P1.5: Parse of Print is the digest; every byte at every place.
func TestParseOfPrint(t *testing.T) {
	for _, d := range some() {
		if got, ok := digest.Parse(digest.Print(d)); !ok || got != d {
			t.Errorf("P1.5: Parse of Print of %x: %x, %v", d, got, ok)
		}
	}
	for b := range 256 {
		for i := range 32 {
			var d api.Digest
			d[i], d[31-i] = byte(b), 0x5a
			if got, ok := digest.Parse(digest.Print(d)); !ok || got != d {
				t.Errorf("P1.5: Parse of Print of %x: %x, %v", d, got, ok)
			}
		}
	}
}

// P1.3 and P1.5: of all bytes just the sixteen digits are read, at whatever place; what was read is printed as it was.
func TestParseDigits(t *testing.T) {
	for place := range 64 {
		for c := range 256 {
			text := []byte(strings.Repeat("5c", 32))
			text[place] = byte(c)
			d, ok := digest.Parse(string(text))
			if want := strings.IndexByte("0123456789abcdef", byte(c)) >= 0; ok != want {
				t.Errorf("P1.3: Parse(%q): %v", text, ok)
			}
			if ok && digest.Print(d) != string(text) {
				t.Errorf("P1.5: Print of Parse of %q: %s", text, digest.Print(d))
			}
			if !ok && d != (api.Digest{}) {
				t.Errorf("R2: Parse(%q): %x beside false", text, d)
			}
		}
	}
}

// P1.3: texts of other lengths, and other ways to write a digest, are refused with the zero digest.
func TestParseRefuses(t *testing.T) {
	good := digest.Print(digest.Of([]byte("a")))
	wrong := []string{
		strings.ToUpper(good), "0x" + good, "0x" + good[2:], "0X" + good[2:],
		" " + good, good + " ", good + "\n", good[:63] + "\n", " " + good[1:], "+" + good[1:], "-" + good[1:],
		good[:63] + "A", good[:63] + "g", good[:63] + "G", "F" + good[1:],
		good[:62] + "é", strings.Repeat("é", 32), strings.Repeat("０", 64), strings.Repeat("\x00", 64), strings.Repeat("\xff", 64),
		good + good, good[:31] + "_" + good[31:],
	}
	for n := range 64 {
		wrong = append(wrong, good[:n], good+good[:n+1])
	}
	if slices.Contains(wrong, good) {
		t.Fatal("the right text is among the wrong ones")
	}
	for _, s := range wrong {
		if d, ok := digest.Parse(s); ok || d != (api.Digest{}) {
			t.Errorf("P1.3: Parse(%q): %x, %v", s, d, ok)
		}
	}
}
