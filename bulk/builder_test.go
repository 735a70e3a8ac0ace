package bulk_test

import (
	"encoding/hex"
	"strings"
	"testing"

	"pergola/api"
	"pergola/bulk"
	"pergola/digest"
	"pergola/node"
)

func TestP81Example(t *testing.T) {
	b := bulk.New()
	for i, c := range []struct {
		key, value string
		e          api.Errno
	}{{"", "\x01", 0}, {"", "\x01", 80}, {strings.Repeat("z", 33), "", 70}, {"a", strings.Repeat("z", 257), 71}} {
		if e := b.Add([]byte(c.key), []byte(c.value)); e != c.e {
			t.Errorf("P8.1: call %d: %d, not %d", i, e, c.e)
		}
	}
	if b.Len() != 1 {
		t.Error("P8.1: Len =", b.Len())
	}
}

func TestP81NothingTaken(t *testing.T) {
	b := bulk.New()
	for range 3 {
		if b.Root() != node.EmptyRoot() || b.Root() != digest.Of([]byte{0x80}) || b.Len() != 0 {
			t.Fatalf("P8.1: a new builder: %x, %d", b.Root(), b.Len())
		}
	}
	p := &plain{}
	add(t, b, p, "", "\x01")
	alike(t, b, *p)
}

// kids are so many that there are not, as hexadecimal digits.
func kids(n int) string { return strings.Repeat("80", n) }

// digits are those of a text.
func digits(text string) string { return hex.EncodeToString([]byte(text)) }

// byDigest is a reference to what has these digits.
func byDigest(t *testing.T, node string) string {
	d := digest.Of(bytesOf(t, node))
	return "a0" + digits(string(d[:]))
}

func bytesOf(t *testing.T, node string) []byte {
	t.Helper()
	b, err := hex.DecodeString(strings.ReplaceAll(node, " ", ""))
	if err != nil {
		t.Fatal(err)
	}
	return b
}

// The topmost nodes of some rows, worked out by hand.
func TestP81NodesByHand(t *testing.T) {
	inline, named := strings.Repeat("x", 28), strings.Repeat("x", 29)
	for name, c := range map[string]struct {
		l   []pair
		top string
	}{
		"a leaf of no path":    {[]pair{{"", "\x05"}}, "c2 20 05"},
		"a leaf":               {[]pair{{"a", "\x01"}}, "c4 82 20 61 01"},
		"a value of two bytes": {[]pair{{"a", "xy"}}, "c6 82 20 61 82 78 79"},
		"parting at once":      {[]pair{{"\x10", "\x01"}, {"\x20", "\x02"}}, "d5 80 c2 30 01 c2 30 02" + kids(13) + "80"},
		"parting at the end":   {[]pair{{"ab", "\x01"}, {"ac", "\x02"}}, "d9 82 16 16 d5" + kids(2) + "c2 20 01 c2 20 02" + kids(12) + "80"},
		"a branch's value":     {[]pair{{"", "\x03"}, {"a", "\x01"}}, "d3" + kids(6) + "c2 31 01" + kids(9) + "03"},
		"one in another": {[]pair{{"", "\x03"}, {"a", "\x01"}, {"ab", "\x02"}},
			"e6" + kids(6) + "d5 11 d3" + kids(6) + "c2 32 02" + kids(9) + "01" + kids(9) + "03"},
		"leaves of 31 bytes": {[]pair{{"\x10", inline}, {"\x20", inline}},
			"f8 4d 80 de 30 9c" + digits(inline) + "de 30 9c" + digits(inline) + kids(13) + "80"},
		"leaves of 32 bytes": {[]pair{{"\x10", named}, {"\x20", named}},
			"f8 51 80" + byDigest(t, "df 30 9d"+digits(named)) + byDigest(t, "df 30 9d"+digits(named)) + kids(13) + "80"},
		"a branch by its digest": {[]pair{{"\x11", named}, {"\x12", named}},
			"e2 11" + byDigest(t, "f8 51 80"+byDigest(t, "df 20 9d"+digits(named))+byDigest(t, "df 20 9d"+digits(named))+kids(13)+"80")},
	} {
		b, _ := made(t, c.l...)
		if got := b.Root(); got != digest.Of(bytesOf(t, c.top)) {
			t.Errorf("P8.1: %s: Root of %v is not the digest of %s", name, c.l, c.top)
		}
		if b.Len() != len(c.l) {
			t.Errorf("P8.1: %s: Len = %d", name, b.Len())
		}
		rooted(t, c.l...)
	}
}

func TestP81RootBehindEachOne(t *testing.T) {
	for _, l := range someRows() {
		b, p := bulk.New(), &plain{}
		alike(t, b, *p)
		for _, q := range l {
			add(t, b, p, q.key, q.value)
			alike(t, b, *p)
			alike(t, b, *p)
		}
	}
}

// Each choice of eight keys; of each choice each of them has a short value or a long one.
func TestP81EachChoiceOfKeys(t *testing.T) {
	keys := smallKeys()
	values := []string{"\x01", long}
	for choice := range 1 << len(keys) {
		for lengths := range 4 {
			b, p := bulk.New(), &plain{}
			for i, key := range keys {
				if choice>>i&1 == 1 {
					add(t, b, p, key, values[(lengths>>1*i+lengths)&1])
				}
			}
			alike(t, b, *p)
		}
	}
}

func TestP81EdgeKeysAndValues(t *testing.T) {
	keys, values := edgeKeys(), edgeValues()
	for turn := range values {
		b, p := bulk.New(), &plain{}
		for i, key := range keys {
			add(t, b, p, key, values[(i+turn)%len(values)])
			alike(t, b, *p)
		}
	}
	for i, one := range keys {
		for k, two := range keys[i+1:] {
			value := values[(i+k)%len(values)]
			b, p := made(t, pair{one, value}, pair{two, value})
			alike(t, b, *p)
		}
	}
}

// A value of each length; so nodes of about 32 bytes stand inline, and are named, at each place.
func TestP81EachLengthOfAValue(t *testing.T) {
	for n := range 258 {
		value := strings.Repeat("x", n)
		for _, key := range []string{"", "b", "ba", full} {
			b, p := made(t, pair{key, value})
			alike(t, b, *p)
			add(t, b, p, key+"\x01", value)
			alike(t, b, *p)
			add(t, b, p, "\xf0", value)
			alike(t, b, *p)
		}
	}
}

// A path of each length between two branches, and behind the last one.
func TestP81EachLengthOfAPath(t *testing.T) {
	for n := range 32 {
		for _, lower := range []string{"\x00", "\x0f", "\xf0", "\xff"} {
			lead := strings.Repeat("\x55", n)
			for _, value := range []string{"\x01", long} {
				b, p := bulk.New(), &plain{}
				for _, key := range []string{"\x55", lead, lead + lower, lead + lower + "\x00", lead + "\xff", full[:31] + "a", full} {
					add(t, b, p, key, value)
					alike(t, b, *p)
				}
			}
		}
	}
}

// Whether Root is asked on the way, and how often, is not seen.
func TestP81RootInTheMiddle(t *testing.T) {
	for _, l := range someRows() {
		for asks := range 1 << len(l) {
			b, p := bulk.New(), &plain{}
			for i, q := range l {
				add(t, b, p, q.key, q.value)
				if asks>>i&1 == 1 {
					alike(t, b, *p)
				}
			}
			alike(t, b, *p)
		}
	}
}

func TestP81LongRows(t *testing.T) {
	for seed := range uint32(20) {
		l := longRow(seed, 300)
		b, p := bulk.New(), &plain{}
		for i, q := range l {
			add(t, b, p, q.key, q.value)
			if i%(7+int(seed)) == 0 {
				alike(t, b, *p)
			}
		}
		alike(t, b, *p)
		rooted(t, l...)
	}
}

func TestP81AllKeysOfTwoBytes(t *testing.T) {
	b, p := bulk.New(), &plain{}
	for n := range 1 << 16 {
		if n&0xff == 0 {
			add(t, b, p, string([]byte{byte(n >> 8)}), "\x07")
		}
		add(t, b, p, string([]byte{byte(n >> 8), byte(n)}), string([]byte{1 + byte(n%255)}))
	}
	alike(t, b, *p)
}

// P8.1 and R2: the first error of those that apply, at each state of a builder.
func TestP81Errors(t *testing.T) {
	for _, l := range someRows() {
		for _, key := range append(edgeKeys(), wrongKeys()...) {
			for _, value := range append([]string{"\x01", most}, wrongValues()...) {
				b, p := made(t, l...)
				add(t, b, p, key, value)
				alike(t, b, *p)
			}
		}
	}
}

func TestP81WhichErrorIsFirst(t *testing.T) {
	tooLong, wrong := strings.Repeat("a", 33), strings.Repeat("v", 257)
	for _, c := range []struct {
		key, value string
		e          api.Errno
	}{
		{tooLong, "\x01", api.ErrTrieKey}, {tooLong, "", api.ErrTrieKey}, {tooLong, wrong, api.ErrTrieKey},
		{"c", "", api.ErrTrieValue}, {"c", wrong, api.ErrTrieValue}, {"b", "", api.ErrTrieValue}, {"a", wrong, api.ErrTrieValue}, {"", "", api.ErrTrieValue},
		{"b", "\x01", api.ErrBulkOrder}, {"b", "\x02", api.ErrBulkOrder}, {"a", "\x01", api.ErrBulkOrder}, {"", "\x01", api.ErrBulkOrder}, {"a\xff", "\x01", api.ErrBulkOrder}, {strings.Repeat("a", 32), most, api.ErrBulkOrder},
		{"b\x00", "\x01", api.OK}, {"c", most, api.OK}, {strings.Repeat("c", 32), "\x00", api.OK},
	} {
		b := bulk.New()
		b.Add([]byte("b"), []byte("\x01"))
		if e := b.Add([]byte(c.key), []byte(c.value)); e != c.e {
			t.Errorf("P8.1: behind b: Add%v = %d, not %d", pair{c.key, c.value}, e, c.e)
		}
	}
}

// R9: a key is behind another one byte by byte; one that is the beginning of another one is ahead of it.
func TestP81OrderOfKeys(t *testing.T) {
	for _, one := range edgeKeys() {
		for _, two := range edgeKeys() {
			b, p := made(t, pair{one, "\x01"}, pair{two, "\x02"})
			alike(t, b, *p)
		}
	}
}

func TestR6BuildersInTurn(t *testing.T) {
	rows := someRows()
	for _, l := range rows {
		for _, m := range rows {
			b, p := bulk.New(), &plain{}
			c, q := bulk.New(), &plain{}
			for i := range max(len(l), len(m)) {
				if i < len(l) {
					add(t, b, p, l[i].key, l[i].value)
				}
				if i < len(m) {
					add(t, c, q, m[i].key, m[i].value)
				}
			}
			alike(t, b, *p)
			alike(t, c, *q)
		}
	}
}
