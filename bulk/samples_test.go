package bulk_test

import (
	"slices"
	"strings"
)

// Keys and values at each edge that the chapter names.

var (
	full  = strings.Repeat("k", 32) // k is 6b
	long  = strings.Repeat("v", 40)
	most  = strings.Repeat("V", 256)
	other = strings.Repeat("w", 40)
)

// edgeKeys: none; one byte; each the beginning of the next; parting at the first nibble, within a byte, at the last one; of MaxKey bytes and of one less. They rise.
func edgeKeys() []string {
	l := []string{
		"", "\x00", "\x01", "\x0f", "\x10", "\x7f", "\x80", "\xf0", "\xff", "a", "ab", "abc", "ac", "aq", "b", "q",
		full, full[:31], full[:31] + "j", full[:31] + "{", full[:30] + "j", full[:16], full[:16] + "{" + full[17:],
		"\x7b" + full[1:], "\x6c" + full[1:], strings.Repeat("\x00", 32), strings.Repeat("\x00", 31), strings.Repeat("\xff", 32),
	}
	slices.Sort(l)
	return l
}

func edgeValues() []string {
	return []string{"\x01", "\x00", "\x80", "\xff", "ab", strings.Repeat("x", 27), strings.Repeat("x", 28), strings.Repeat("x", 29), strings.Repeat("x", 30), strings.Repeat("x", 31), strings.Repeat("x", 32), strings.Repeat("x", 33), strings.Repeat("x", 55), strings.Repeat("x", 56), most[:255], most}
}

// wrongKeys and wrongValues are none.
func wrongKeys() []string {
	return []string{full + "k", full + "\x00", strings.Repeat("\x00", 33), strings.Repeat("\xff", 33), full + full, strings.Repeat("a", 1000)}
}

func wrongValues() []string {
	return []string{"", most + "V", most + most, strings.Repeat("\x00", 257)}
}

// smallKeys are few, and have among them each way in which keys part. They rise.
func smallKeys() []string {
	return []string{"", "\x00", "\x00\x00", "\x00\x01", "\x00\x10", "\x01", "\x10", "\x10\x00\x00"}
}

// someRows are things in order, of which each form of a trie is made.
func someRows() map[string][]pair {
	return map[string][]pair{
		"no key":              {},
		"the key of no bytes": {{"", "\x01"}},
		"one key":             {{"a", "\x01"}},
		"a long key":          {{full, most}},
		"two leaves":          {{"ab", "\x01"}, {"ac", "\x02"}},
		"two long leaves":     {{"ab", long}, {"ac", other}},
		"a branch's value":    {{"", "\x02"}, {"a", long}, {"ab", "\x01"}},
		"alike leaves":        {{"aa", long}, {"ab", long}, {"b", long}},
		"one in another":      {{"", "0"}, {"a", "1"}, {"ab", "2"}, {"abc", "3"}, {"abcd", long}, {"abcde", "5"}},
		"long keys":           {{full[:31], long}, {full[:31] + "j", "\x02"}, {full, "\x01"}, {full[:31] + "{", most}, {"\x7b" + full[1:], "\x03"}},
		"down and up again":   {{"\x11\x11\x11", "1"}, {"\x11\x11\x12", long}, {"\x11\x12", "3"}, {"\x12", "4"}, {"\x12\x34\x56", "5"}, {"\x12\x34\x57", "6"}, {"\x20", other}},
	}
}

// next goes round all numbers, in an order that is no simple one.
func next(n uint32) uint32 { return n*1664525 + 1013904223 }

// longRow are many things in order, whose keys lie close to each other or far apart.
func longRow(seed uint32, count int) []pair {
	m := map[string]string{}
	values := edgeValues()
	n := seed
	for range count {
		var key []byte
		n = next(n)
		length, wide := n>>16%33, n>>28%2 == 0
		for range length {
			n = next(n)
			c := byte(n >> 24 % 3)
			if wide {
				c = byte(n >> 24)
			}
			key = append(key, c<<(n>>20%2*4))
		}
		n = next(n)
		m[string(key)] = values[n>>20%uint32(len(values))]
	}
	return inOrder(m)
}
