package bulk_test

import (
	"bytes"
	"slices"
	"strings"
	"testing"

	"pergola/api"
	"pergola/bulk"
	"pergola/digest"
	"pergola/node"
	"pergola/trie"
	"pergola/words"
)

func TestP82Examples(t *testing.T) {
	for i, c := range []struct {
		l []pair
		d api.Digest
		e api.Errno
	}{
		{nil, node.EmptyRoot(), 0},
		{[]pair{{"a", "\x01"}}, digest.Of([]byte{0xc4, 0x82, 0x20, 0x61, 1}), 0},
		{[]pair{{"a", "\x01"}, {"a", "\x02"}}, api.Digest{}, 80},
		{[]pair{{"b", "\x01"}, {"a", "\x01"}}, api.Digest{}, 80},
		{[]pair{{"a", ""}}, api.Digest{}, 71},
	} {
		if d, e := bulk.Root(pairs(c.l)); d != c.d || e != c.e {
			t.Errorf("P8.2: example %d: %x, %d", i, d, e)
		}
	}
}

func TestP82RootOfARow(t *testing.T) {
	for _, l := range someRows() {
		for n := range len(l) + 1 {
			rooted(t, l[:n]...)
			b, _ := made(t, l[:n]...)
			if d, _ := bulk.Root(pairs(l[:n])); d != b.Root() {
				t.Fatalf("P8.2: Root(%v) is not the builder's", l[:n])
			}
		}
	}
	values := edgeValues()
	for turn := range values {
		var l []pair
		for i, key := range edgeKeys() {
			l = append(l, pair{key, values[(i+turn)%len(values)]})
		}
		rooted(t, l...)
	}
}

// wrongPairs are refused behind whatever was taken.
func wrongPairs() []pair {
	var l []pair
	for _, key := range append(wrongKeys(), "", "zz") {
		for _, value := range append(wrongValues(), "\x01") {
			if len(key) > 32 || len(value) == 0 || len(value) > 256 {
				l = append(l, pair{key, value})
			}
		}
	}
	return l
}

func TestP82OneIsRefused(t *testing.T) {
	for _, l := range someRows() {
		for at := range len(l) + 1 {
			for _, wrong := range wrongPairs() {
				rooted(t, slices.Insert(slices.Clone(l), at, wrong)...)
			}
			for _, key := range edgeKeys() {
				rooted(t, slices.Insert(slices.Clone(l), at, pair{key, "\x01"})...)
			}
		}
	}
}

// Of several that would be refused it is the first one's error, whatever is behind it.
func TestP82TheFirstThatIsRefused(t *testing.T) {
	good := []pair{{"b", "\x01"}, {"c", long}}
	wrong := []pair{{full + "k", "\x01"}, {"d", ""}, {"a", "\x01"}}
	errors := []api.Errno{api.ErrTrieKey, api.ErrTrieValue, api.ErrBulkOrder}
	for i := range wrong {
		for k := range wrong {
			for m := range wrong {
				l := slices.Concat(good, []pair{wrong[i], wrong[k], {"e", "\x01"}, wrong[m]})
				rooted(t, l...)
				if d, e := bulk.Root(pairs(l)); d != (api.Digest{}) || e != errors[i] {
					t.Errorf("P8.2: Root(%v) = %x, %d", l, d, e)
				}
			}
		}
	}
}

func TestP82TwoOfARowChangePlaces(t *testing.T) {
	for _, l := range someRows() {
		for i := range l {
			for k := range i {
				m := slices.Clone(l)
				m[i], m[k] = m[k], m[i]
				rooted(t, m...)
				if _, e := bulk.Root(pairs(m)); e != api.ErrBulkOrder {
					t.Errorf("P8.2: Root(%v): %d", m, e)
				}
			}
		}
	}
}

// plainList reads P8.3.
func plainList(l [][]byte) api.Digest {
	x := trie.New()
	for i, text := range l {
		d := digest.Of(text)
		x.Put(words.Key(uint64(i)), d[:])
	}
	return x.Root()
}

func listed(t *testing.T, why string, l [][]byte) {
	t.Helper()
	if d, e := bulk.List(l); d != plainList(l) || e != api.OK {
		t.Fatalf("P8.3: List of %s, %d in all = %x, %d", why, len(l), d, e)
	}
}

func TestP83ListOfNone(t *testing.T) {
	for _, l := range [][][]byte{nil, {}, make([][]byte, 0, 5)} {
		if d, e := bulk.List(l); d != node.EmptyRoot() || e != api.OK {
			t.Errorf("P8.3: List of none = %x, %d", d, e)
		}
	}
}

// One leaf, of the sixteen nibbles of 0, worked out by hand.
func TestP83ListOfOne(t *testing.T) {
	for _, text := range []string{"", "a", long, most + "V", strings.Repeat("z", 100000)} {
		top := bytesOf(t, "eb 89 20 00 00 00 00 00 00 00 00 a0"+byDigest(t, digits(text))[2:])
		if d, e := bulk.List([][]byte{[]byte(text)}); d != digest.Of(top) || e != api.OK {
			t.Errorf("P8.3: List of one text of %d bytes = %x, %d", len(text), d, e)
		}
	}
}

func TestP83ListOfMany(t *testing.T) {
	var l, alike, empty [][]byte
	for i := range 600 {
		text := bytes.Repeat([]byte{byte(i)}, i)
		l, alike, empty = append(l, text), append(alike, []byte("alike")), append(empty, nil)
		if i < 40 || i%51 == 0 || i > 250 && i < 260 {
			listed(t, "texts that get longer", l)
			listed(t, "alike texts", alike)
			listed(t, "empty texts", empty)
		}
	}
	for i := range 70000 {
		l = append(l, []byte(words.Print(uint64(i))))
	}
	for _, n := range []int{4095, 4096, 4097, 65535, 65536, 65537, len(l)} {
		listed(t, "many texts", l[:n])
	}
}

// It refuses nothing: no text is too long, or out of order.
func TestP83AnyTexts(t *testing.T) {
	listed(t, "one empty among others", [][]byte{[]byte("z"), {}, []byte("a"), nil, []byte("a")})
	for _, n := range []int{32, 33, 255, 256, 257, 1 << 16, 1<<20 + 1} {
		text := bytes.Repeat([]byte("v"), n)
		listed(t, "long texts", [][]byte{text, text[1:], text})
	}
	listed(t, "a very long text", [][]byte{[]byte("a"), make([]byte, 1<<24), []byte("b")})
}

// The places are what a text stands under: the order of the list is seen.
func TestP83PlacesAreSeen(t *testing.T) {
	one, _ := bulk.List([][]byte{[]byte("a"), []byte("b")})
	two, _ := bulk.List([][]byte{[]byte("b"), []byte("a")})
	three, _ := bulk.List([][]byte{[]byte("a"), []byte("b"), nil})
	if one == two || one == three || two == three {
		t.Error("P8.3: unlike lists have one root")
	}
}

// What is refused, ahead of, between and behind what is taken, is not seen.
func TestP84WhatIsRefusedIsNotSeen(t *testing.T) {
	for _, l := range someRows() {
		for at := range len(l) + 1 {
			for _, wrong := range wrongPairs() {
				b, p := made(t, l[:at]...)
				add(t, b, p, wrong.key, wrong.value)
				alike(t, b, *p)
				for _, q := range l[at:] {
					add(t, b, p, q.key, q.value)
				}
				alike(t, b, l)
			}
		}
	}
}

// A key that is out of order is refused, and the last one is still the one that was taken.
func TestP84WhatIsOutOfOrderIsNotSeen(t *testing.T) {
	for _, l := range someRows() {
		for at := range l {
			for _, early := range l[:at+1] {
				for _, value := range []string{early.value, "other", most} {
					b, p := made(t, l[:at+1]...)
					for range 2 {
						add(t, b, p, early.key, value)
					}
					alike(t, b, l[:at+1])
					for _, q := range l[at+1:] {
						add(t, b, p, q.key, q.value)
						add(t, b, p, early.key, value)
					}
					alike(t, b, l)
				}
			}
		}
	}
}

// Everything that may be refused at every place, all of it in one builder.
func TestP84MuchIsRefused(t *testing.T) {
	for _, l := range someRows() {
		b, p := bulk.New(), &plain{}
		refuse := func() {
			for _, wrong := range wrongPairs() {
				add(t, b, p, wrong.key, wrong.value)
			}
			for _, q := range slices.Clone(*p) {
				add(t, b, p, q.key, "\x01")
			}
		}
		for _, q := range l {
			refuse()
			add(t, b, p, q.key, q.value)
			refuse()
			alike(t, b, *p)
		}
		refuse()
		alike(t, b, l)
	}
}

func rootOfAll(t *testing.T, x *trie.Trie) {
	t.Helper()
	var l []api.Pair
	for key, value := range x.All() {
		l = append(l, api.Pair{Key: key, Value: value})
	}
	if d, e := bulk.Root(l); d != x.Root() || e != api.OK {
		t.Fatalf("P8.4: Root of All = %x, %d, not %x; of %d keys", d, e, x.Root(), x.Len())
	}
}

func TestP84RootOfATriesAll(t *testing.T) {
	for _, l := range someRows() {
		x := trie.New()
		rootOfAll(t, x)
		for _, q := range slices.Backward(l) {
			x.Put([]byte(q.key), []byte(q.value))
			rootOfAll(t, x)
		}
		for _, q := range l {
			x.Delete([]byte(q.key))
			rootOfAll(t, x)
		}
	}
	for seed := range uint32(10) {
		x := trie.New()
		l := longRow(100+seed, 200)
		n := seed
		for range 400 {
			n = next(n)
			q := l[n>>8%uint32(len(l))]
			if n>>28%3 == 0 {
				x.Delete([]byte(q.key))
			} else {
				x.Put([]byte(q.key), []byte(q.value))
			}
			if n>>24%8 == 0 {
				rootOfAll(t, x)
			}
		}
		rootOfAll(t, x)
	}
}
