package words_test

import (
	"strings"
	"testing"

	"pergola/words"
)

func TestP34TextOfEachWord(t *testing.T) {
	for n, want := range map[uint64]string{
		0:                    "0",
		1:                    "1",
		9:                    "9",
		10:                   "10",
		255:                  "255",
		256:                  "256",
		1000000:              "1000000",
		1 << 32:              "4294967296",
		1 << 63:              "9223372036854775808",
		9999999999999999999:  "9999999999999999999",
		10000000000000000000: "10000000000000000000",
		m:                    "18446744073709551615",
	} {
		if got := words.Print(n); got != want {
			t.Errorf("P3.4: Print(%d) = %q, not %q", n, got, want)
		}
		if got, ok := words.Parse(want); got != n || !ok {
			t.Errorf("P3.4: Parse(%q) = %d %v, not %d", want, got, ok, n)
		}
	}
	for _, n := range edges() {
		if got := words.Print(n); got != plainPrint(n) {
			t.Errorf("P3.4: Print(%d) = %q, not %q", n, got, plainPrint(n))
		}
	}
}

func TestP34ParseRefusesWhatIsNoWordsText(t *testing.T) {
	for _, s := range []string{
		"", "00", "01", "007", "00000000000000000000", "018446744073709551615", "01844674407370955161",
		"+0", "+1", "-0", "-1", " 1", "1 ", "1\n", "\x001", "1\x00", "1_000", "0x1f", "1e3", "1.0", "1,0", "ff",
		"/", ":", "5/", "5:", "٣", "１", "\xff", "1\xb2", "x",
		"18446744073709551616", "18446744073709551620", "18446744073709551700", "20000000000000000000",
		"36893488147419103232", "99999999999999999999", "1844674407370955161x", "x8446744073709551615",
		"100000000000000000000", "184467440737095516150", "184467440737095516160", "000000000000000000001",
		"340282366920938463463374607431768211456", strings.Repeat("9", 5000), strings.Repeat("0", 5000),
	} {
		if n, ok := words.Parse(s); n != 0 || ok {
			t.Errorf("P3.4: Parse(%.60q) = %d %v, not 0 false", s, n, ok)
		}
	}
}

func TestP34EachSignAlone(t *testing.T) {
	for c := range 256 {
		s := string([]byte{byte(c)})
		n, ok := words.Parse(s)
		if want, wantOK := plainParse(s); n != want || ok != wantOK {
			t.Errorf("P3.4: Parse(%q) = %d %v, not %d %v", s, n, ok, want, wantOK)
		}
	}
}

// texts are words' texts with one sign changed, put in or taken out.
func texts() []string {
	var all []string
	for _, n := range edges() {
		s := plainPrint(n)
		all = append(all, s, s+s)
		for i := range s {
			all = append(all, s[:i]+s[i+1:])
			for _, c := range []string{"0", "1", "9", "+", "-", "_", " ", "/", ":", "a", "\x80"} {
				all = append(all, s[:i]+c+s[i+1:], s[:i]+c+s[i:])
			}
		}
	}
	return all
}

func TestP34ParseTakesWhatPrintTells(t *testing.T) {
	for _, s := range texts() {
		n, ok := words.Parse(s)
		if want, wantOK := plainParse(s); n != want || ok != wantOK {
			t.Fatalf("P3.4: Parse(%q) = %d %v, not %d %v", s, n, ok, want, wantOK)
		}
	}
}

func TestP35TextsThereAndBack(t *testing.T) {
	for _, n := range edges() {
		if got, ok := words.Parse(words.Print(n)); got != n || !ok {
			t.Errorf("P3.5: Parse(Print(%d)) = %d %v", n, got, ok)
		}
	}
	for _, s := range texts() {
		if n, ok := words.Parse(s); ok && words.Print(n) != s {
			t.Fatalf("P3.5: Parse(%q) = %d, whose text is %q", s, n, words.Print(n))
		}
	}
}
