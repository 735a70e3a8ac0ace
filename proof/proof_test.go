package proof_test

import (
	"encoding/hex"
	"slices"
	"strings"
	"testing"

	"pergola/api"
	"pergola/digest"
	"pergola/node"
	"pergola/proof"
	"pergola/trie"
)

func unhex(text string) []byte {
	b, err := hex.DecodeString(strings.ReplaceAll(text, " ", ""))
	if err != nil {
		panic(err)
	}
	return b
}

func TestP91P92Examples(t *testing.T) {
	x := trieOf(plain{"a": "\x01"})
	root, leaf := x.Root(), unhex("c482206101")
	for _, key := range []string{"a", "b"} {
		if l := proved(t, x, key); len(l) != 1 || string(l[0]) != string(leaf) {
			t.Errorf("P9.1: Prove(%q) = %x", key, l)
		}
	}
	if l := proved(t, trie.New(), "a"); len(l) != 0 {
		t.Errorf("P9.1: Prove of an empty trie = %x", l)
	}
	says(t, "P9.2", root, "a", [][]byte{leaf}, "\x01", true, api.OK)
	says(t, "P9.2", root, "b", [][]byte{leaf}, "", false, api.OK)
	says(t, "P9.2", node.EmptyRoot(), "a", nil, "", false, api.OK)
	refused(t, "P9.2", root, "a", nil)
	refused(t, "P9.2", root, "a", [][]byte{leaf, leaf})
	refused(t, "P9.2", api.Digest{}, "a", [][]byte{leaf})
}

// Proofs worked out by hand, byte by byte.
func TestP91ByteByByte(t *testing.T) {
	none := func(n int) string { return strings.Repeat("80", n) }
	v := hex.EncodeToString([]byte(long))
	w := hex.EncodeToString([]byte(other))
	name := func(text string) string {
		d := digest.Of(unhex(text))
		return "a0" + hex.EncodeToString(d[:])
	}
	short := "e6" + none(6) + "d511 d3" + none(6) + "c23202" + none(9) + "01" + none(9) + "03"
	leafV, leafW := "ea20a8"+v, "ea20a8"+w
	below := "f851" + none(2) + name(leafV) + name(leafW) + none(12) + "80"
	above := "e4821616" + name(below)
	for _, k := range []struct {
		p    plain
		key  string
		want []string
	}{
		{plain{"a": "\x01", "ab": "\x02", "": "\x03"}, "", []string{short}},
		{plain{"a": "\x01", "ab": "\x02", "": "\x03"}, "a", []string{short}},
		{plain{"a": "\x01", "ab": "\x02", "": "\x03"}, "ab", []string{short}},
		{plain{"a": "\x01", "ab": "\x02", "": "\x03"}, "ac", []string{short}},
		{plain{"ab": long, "ac": other}, "ab", []string{above, below, leafV}},
		{plain{"ab": long, "ac": other}, "ac", []string{above, below, leafW}},
		{plain{"ab": long, "ac": other}, "acc", []string{above, below, leafW}},
		{plain{"ab": long, "ac": other}, "ad", []string{above, below}},
		{plain{"ab": long, "ac": other}, "b", []string{above}},
		{plain{"ab": long, "ac": other}, "a", []string{above}},
		{plain{"ab": long, "ac": other}, "", []string{above}},
	} {
		var want []string
		for _, text := range k.want {
			want = append(want, string(unhex(text)))
		}
		if l := proved(t, trieOf(k.p), k.key); !slices.Equal(texts(l), want) {
			t.Errorf("P9.1: Prove(%q) of %q = %x, not %x", k.key, k.p, l, want)
		}
	}
}

// kinds are those of a proof's nodes: L, E and B.
func kinds(l [][]byte) string {
	text := ""
	for _, b := range l {
		n, _ := node.Decode(b)
		text += "?LEB"[n.Kind : n.Kind+1]
	}
	return text
}

// Where a way ends, worked out by hand: which nodes the proof has, and the key's value.
func TestP91P92WhereAWayEnds(t *testing.T) {
	type asked struct{ key, kinds, value string }
	for _, k := range []struct {
		name string
		p    plain
		l    []asked
	}{
		{"no key", plain{}, []asked{{"", "", ""}, {"a", "", ""}, {full, "", ""}}},
		{"a leaf on top, of fewer bytes than a digest", plain{"a": "1"}, []asked{
			{"a", "L", "1"}, {"b", "L", ""}, {"q", "L", ""}, {"ab", "L", ""}, {"", "L", ""},
		}},
		{"a leaf on top, of no path", plain{"": "1"}, []asked{{"", "L", "1"}, {"\x00", "L", ""}, {full, "L", ""}}},
		{"a leaf on top, of the longest path", plain{full: most}, []asked{
			{full, "L", most}, {full[:31], "L", ""}, {full[:31] + "j", "L", ""}, {full[:31] + "{", "L", ""}, {"", "L", ""},
		}},
		{"inline leaves below a branch of no value", plain{"a": "0", "q": "1"}, []asked{
			{"a", "B", "0"}, {"q", "B", "1"}, {"b", "B", ""}, {"aa", "B", ""}, {"\x11", "B", ""}, {"", "B", ""},
		}},
		{"an inline leaf below a branch with a value", plain{"": "0", "abc": "1"}, []asked{
			{"", "B", "0"}, {"abc", "B", "1"}, {"ab", "B", ""}, {"a", "B", ""}, {"q", "B", ""}, {"abcd", "B", ""},
		}},
		{"an inline branch below a branch", plain{"\x12": "0", "\x13": "1", "\x20": "2"}, []asked{
			{"\x12", "B", "0"}, {"\x13", "B", "1"}, {"\x14", "B", ""}, {"\x12\x00", "B", ""}, {"\x20", "B", "2"}, {"\x30", "B", ""},
		}},
		{"an extension on top, of fewer bytes than a digest", plain{"abc": "0", "abd": "1"}, []asked{
			{"abc", "E", "0"}, {"abd", "E", "1"}, {"abe", "E", ""}, {"abq", "E", ""}, {"ab", "E", ""}, {"a", "E", ""}, {"", "E", ""}, {"q", "E", ""}, {"abcd", "E", ""},
		}},
		{"an inline extension", plain{"a": "0", "abc": "1", "abd": "2", "aq": "3"}, []asked{
			{"a", "EB", "0"}, {"abc", "EB", "1"}, {"abd", "EB", "2"}, {"aq", "EB", "3"}, {"abe", "EB", ""}, {"abq", "EB", ""}, {"ab", "EB", ""}, {"ac", "EB", ""}, {"b", "E", ""},
		}},
		{"leaves by digests", plain{"a": long, "q": other}, []asked{
			{"a", "BL", long}, {"q", "BL", other}, {"b", "BL", ""}, {"aa", "BL", ""}, {"\x11", "B", ""}, {"", "B", ""},
		}},
		{"leaves by digests, of longer paths", plain{"abc": long, "qbc": other}, []asked{
			{"abc", "BL", long}, {"ab", "BL", ""}, {"a", "BL", ""}, {"abd", "BL", ""}, {"abcd", "BL", ""}, {"\x81", "B", ""},
		}},
		{"all by digests", plain{"": most, "a": long, "ab": other}, []asked{
			{"", "B", most}, {"a", "BEB", long}, {"ab", "BEBL", other}, {"aq", "BEB", ""}, {"b", "BE", ""}, {"q", "B", ""}, {"ac", "BEBL", ""}, {"abc", "BEBL", ""},
		}},
		{"branches by digests, without values", plain{"ab": long, "ac": other}, []asked{
			{"ab", "EBL", long}, {"ad", "EB", ""}, {"a", "E", ""}, {"", "E", ""}, {"b", "E", ""}, {"aq", "E", ""},
		}},
		{"a branch by a digest of which nothing is left, without a value", plain{"ab": long, "aq": other}, []asked{
			{"a", "EB", ""}, {"ab", "EBL", long}, {"\x61\x11", "EB", ""}, {"", "E", ""},
		}},
		{"a branch by a digest, with short ones below", plain{"a": long, "ab": "1", "aq": "2"}, []asked{
			{"a", "EB", long}, {"ab", "EB", "1"}, {"aq", "EB", "2"}, {"ac", "EB", ""}, {"a\x11", "EB", ""},
		}},
	} {
		x := trieOf(k.p)
		alike(t, x, k.p, edgeKeys()...)
		for _, a := range k.l {
			l := proved(t, x, a.key)
			if got := kinds(l); got != a.kinds {
				t.Errorf("P9.1: %s: Prove(%q) has %s, not %s", k.name, a.key, got, a.kinds)
			}
			says(t, "P9.2: "+k.name, x.Root(), a.key, l, a.value, a.value != "", api.OK)
		}
	}
}

func TestP91P92WrongKeys(t *testing.T) {
	for name, p := range someTries() {
		x := trieOf(p)
		l := proved(t, x, full)
		for _, key := range wrongKeys() {
			if got, e := proof.Prove(x, []byte(key)); len(got) != 0 || e != api.ErrTrieKey {
				t.Errorf("P9.1: %s: Prove(%q) = %x, %d", name, key, got, e)
			}
			// Whatever the root and the proof are.
			for _, root := range []api.Digest{x.Root(), node.EmptyRoot(), {}} {
				for _, some := range [][][]byte{nil, l, slices.Repeat(l, 2), noNodes()} {
					says(t, "P9.2: "+name, root, key, some, "", false, api.ErrTrieKey)
				}
			}
		}
		alike(t, x, p, full, full[:31])
	}
}

func TestP93SomeTries(t *testing.T) {
	for _, p := range someTries() {
		alike(t, trieOf(p), p, slices.Concat(edgeKeys(), near(p))...)
	}
}

// Of each choice of some keys, short and long values.
func TestP93EachChoiceOfKeys(t *testing.T) {
	keys := smallKeys()
	others := append(smallKeys(), "\x02", "\x11", "\x20", "\x00\x02", "\x00\x00\x00", "\x10\x00", "\x10\x00\x01")
	for _, values := range [][2]string{{"\x01", "\x02"}, {long, other}, {"\x01", long}, {"\x80", most}} {
		for set := range 1 << len(keys) {
			p := plain{}
			for i, key := range keys {
				if set>>i&1 != 0 {
					p[key] = values[i%2]
				}
			}
			alike(t, trieOf(p), p, others...)
		}
	}
}

// Nodes of 31, 32 and 33 bytes: from 32 on they are things of the proof.
func TestP91NodesAtTheEdgeOfADigest(t *testing.T) {
	for _, k := range []struct {
		name          string
		keys          []string // the first one has the value that makes a node of 31 bytes, and more
		value         int
		inline, named string
	}{
		{"a leaf below", []string{"\x11", "\x12"}, 28, "EB", "EBL"},
		{"a leaf on top", []string{""}, 28, "L", "L"},
		{"a leaf with a path on top", []string{"abc"}, 24, "L", "L"},
		{"a branch below a branch", []string{"\x13", "\x12", "\x20"}, 9, "B", "BB"},
		{"a branch below an extension", []string{"\x10", "\x10\x30"}, 11, "E", "EB"},
		{"a branch on top", []string{"", "\x30"}, 11, "B", "B"},
		{"an extension below", []string{"\x10", "\x10\x30", "\x20"}, 9, "B", "BE"},
	} {
		for more := range 3 {
			p := plain{k.keys[0]: strings.Repeat("x", k.value+more)}
			for _, key := range k.keys[1:] {
				p[key] = "\x05"
			}
			x := trieOf(p)
			alike(t, x, p, near(p)...)
			want := k.inline
			if more > 0 {
				want = k.named
			}
			if got := kinds(proved(t, x, k.keys[0])); got != want {
				t.Errorf("P9.1: %s, of %d bytes: %s, not %s", k.name, 31+more, got, want)
			}
		}
	}
}

// Alike nodes in several places: each proof has the one on its way.
func TestP91AlikeNodes(t *testing.T) {
	p := plain{}
	for _, first := range []string{"", "a", "b", "ab", "q"} {
		for _, second := range []string{"a", "b", "ab", "q"} {
			p[first+second] = long
		}
	}
	alike(t, trieOf(p), p, append(edgeKeys(), near(p)...)...)
}

// The longest proofs: a branch by a digest for each nibble, and something behind the last one.
func TestP95LongestProofs(t *testing.T) {
	p := plain{full: long}
	for i := range full {
		for _, bits := range []byte{1, 0x10} {
			key := []byte(full)
			key[i] ^= bits
			p[string(key)] = long
		}
	}
	x := trieOf(p)
	for n := range 33 {
		key := full[:n]
		if l := proved(t, x, key); len(l) != 2*n+1 {
			t.Errorf("P9.5: the proof of a key of %d bytes has %d nodes", n, len(l))
		}
	}
	alike(t, x, p, slices.Concat(edgeKeys(), near(plain{full: long}))...)
}

// Many keys, of few lengths and of many.
func TestP93ManyKeys(t *testing.T) {
	n := uint32(1)
	for _, lengths := range []uint32{1, 4, 33} {
		p := plain{}
		for range 400 {
			n = next(n)
			key := strings.Repeat(string([]byte{byte(n >> 24), byte(n >> 16)}), 16)[:lengths-1]
			if lengths < 33 {
				key = string([]byte{byte(n >> 24), byte(n >> 16), byte(n >> 8), 1})[:(n>>4)%(lengths+1)]
			}
			p[key] = strings.Repeat(string([]byte{byte(n>>8) | 1}), int(n>>10%60)%60+1)
		}
		x := trieOf(p)
		var keys []string
		for i, key := range p.keys() {
			if i%4 == 0 {
				keys = append(keys, key, key[:len(key)/2])
				if len(key) > 0 {
					keys = append(keys, key[:len(key)-1]+"\x5a")
				}
			}
		}
		root, nodes := x.Root(), x.Nodes()
		for i, key := range keys {
			if i%20 == 0 {
				if l := proved(t, x, key); !slices.Equal(texts(l), plainProve(x, key)) {
					t.Fatalf("P9.1: Prove(%q) of %d keys = %x", key, len(p), l)
				}
			}
			value, has := p[key]
			says(t, "P9.3", root, key, proved(t, x, key), value, has, api.OK)
		}
		if x.Root() != root || !slices.Equal(texts(x.Nodes()), texts(nodes)) {
			t.Fatal("P9.1: Prove has changed the trie")
		}
	}
}

// Proofs of a trie that changes are those of what it has at the time, by its root at the time.
func TestP93WhileATrieChanges(t *testing.T) {
	x, p := trie.New(), plain{}
	n := uint32(7)
	keys := smallKeys()
	for range 300 {
		n = next(n)
		key := keys[n>>20%8]
		if n>>28 < 6 {
			delete(p, key)
			x.Delete([]byte(key))
		} else {
			p[key] = []string{"\x01", long, other, most}[n>>10%4]
			x.Put([]byte(key), []byte(p[key]))
		}
		alike(t, x, p, keys...)
	}
}
