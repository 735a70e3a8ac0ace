package trie_test

import (
	"encoding/hex"
	"strings"
	"testing"

	"pergola/api"
	"pergola/digest"
	"pergola/node"
	"pergola/trie"
)

func TestExamples(t *testing.T) {
	x := trie.New()
	if x.Root() != node.EmptyRoot() || len(x.Nodes()) != 0 {
		t.Error("P7.3: New: Root, Nodes:", x.Root(), x.Nodes())
	}
	if v, is, e := x.Get([]byte("a")); len(v) != 0 || is || e != api.OK {
		t.Error("P7.1: New: Get(a):", v, is, e)
	}
	if e := x.Put([]byte("a"), []byte{1}); e != api.OK || x.Root() != digest.Of([]byte{0xc4, 0x82, 0x20, 0x61, 1}) {
		t.Error("P7.2: the root of one leaf:", e, x.Root())
	}
	x.Put([]byte("ab"), []byte{2})
	x.Put(nil, []byte{3})
	if got := shape(x); got != "B{6:E1(B{6:L2=\x02}\x01)}\x03" {
		t.Errorf("P7.2: three keys: %q", got)
	}
	for _, want := range []bool{true, false} {
		if had, e := x.Delete([]byte("a")); had != want || e != api.OK {
			t.Error("P7.1: Delete(a):", had, e)
		}
	}
	if e := x.Put([]byte("a"), nil); e != api.ErrTrieValue {
		t.Error("P7.1: Put(a, none):", e)
	}
	if v, is, e := x.Get(make([]byte, 33)); len(v) != 0 || is || e != api.ErrTrieKey {
		t.Error("P7.1: Get of 33 bytes:", v, is, e)
	}
}

// The nodes byte by byte, worked out by hand, and so the roots.
func TestP72NodesByteByByte(t *testing.T) {
	none := func(n int) string { return strings.Repeat("80", n) }
	for _, k := range []struct {
		keys []step
		top  string
	}{
		{[]step{{"", "\x05"}}, "c22005"},
		{[]step{{"a", "\x01"}}, "c482206101"},
		{[]step{{"\x10", "\x80"}}, "c58220108180"},
		{[]step{{"ab", "\x01"}, {"ac", "\x02"}}, "d9821616" + "d5" + none(2) + "c22001" + "c22002" + none(13)},
		{[]step{{"", "\x03"}, {"\x3f", "\x05"}}, "d3" + none(3) + "c23f05" + none(12) + "03"},
		{[]step{{"a", "\x01"}, {"ab", "\x02"}, {"", "\x03"}}, "e6" + none(6) + "d511" + "d3" + none(6) + "c23202" + none(9) + "01" + none(9) + "03"},
	} {
		x, p := made(t, k.keys...)
		alike(t, x, p)
		want, _ := hex.DecodeString(k.top)
		if l := x.Nodes(); len(l) != 1 || string(l[0]) != string(want) || x.Root() != digest.Of(want) {
			t.Errorf("P7.2: %v: Nodes %x, not %x", k.keys, l, want)
		}
	}
}

func TestP71ANewTrieHasNoKeys(t *testing.T) {
	alike(t, trie.New(), plain{}, edgeKeys()...)
	for _, key := range edgeKeys() {
		x := trie.New()
		if had, e := x.Delete([]byte(key)); had || e != api.OK {
			t.Errorf("P7.1: Delete(%q) from a trie without keys = %v, %d", key, had, e)
		}
		alike(t, x, plain{}, key)
	}
}

func TestP71OneKey(t *testing.T) {
	for _, key := range edgeKeys() {
		for _, value := range edgeValues() {
			x, p := made(t, step{key, value})
			alike(t, x, p, edgeKeys()...)
			do(t, x, p, step{key, ""})
			alike(t, x, p, key)
			do(t, x, p, step{key, ""})
			alike(t, x, p, key)
		}
	}
}

func TestP71TwoKeys(t *testing.T) {
	for i, one := range edgeKeys() {
		for k, two := range edgeKeys() {
			for _, values := range [][2]string{{"\x01", "\x02"}, {long, "\x02"}, {long, long}, {most, other}} {
				if i == k {
					continue
				}
				x, p := made(t, step{one, values[0]}, step{two, values[1]})
				alike(t, x, p, edgeKeys()...)
				do(t, x, p, step{one, ""})
				alike(t, x, p, edgeKeys()...)
			}
		}
	}
}

func TestP71ManyKeys(t *testing.T) {
	for turn := range 5 {
		x, p := trie.New(), plain{}
		keys, values := edgeKeys(), edgeValues()
		for i := range keys {
			do(t, x, p, step{keys[(i*5+turn)%len(keys)], values[(i*3+turn)%len(values)]})
			alike(t, x, p, keys...)
		}
		for i := range keys {
			do(t, x, p, step{keys[(i*7+turn)%len(keys)], ""})
			alike(t, x, p, keys...)
		}
	}
}

func TestP71PutOfTheSameValueAndOfAnother(t *testing.T) {
	for name, p := range someTries() {
		for key, value := range p {
			x := trieOf(p)
			if e := x.Put([]byte(key), []byte(value)); e != api.OK {
				t.Errorf("P7.1: %s: Put(%q) of the value that it has = %d", name, key, e)
			}
			alike(t, x, p)
			for _, v := range edgeValues() {
				if e := x.Put([]byte(key), []byte(v)); e != api.OK {
					t.Errorf("P7.1: %s: Put(%q) of another value = %d", name, key, e)
				}
				if got, is, e := x.Get([]byte(key)); string(got) != v || !is || e != api.OK || x.Len() != len(p) {
					t.Errorf("P7.1: %s: Get(%q) = %q, %v, %d behind Put of %q", name, key, got, is, e, v)
				}
			}
			x.Put([]byte(key), []byte(value))
			alike(t, x, p)
		}
	}
}

func TestP71ValuesOfAllBytes(t *testing.T) {
	x, p := trie.New(), plain{}
	for i := range 256 {
		do(t, x, p, step{string([]byte{byte(i)}), string([]byte{byte(255 - i)})})
	}
	alike(t, x, p, "")
}

// refuses asks that wrong keys and values are refused, and nothing has changed.
func refuses(t *testing.T, x *trie.Trie, p plain) {
	t.Helper()
	for _, key := range wrongKeys() {
		if v, is, e := x.Get([]byte(key)); len(v) != 0 || is || e != api.ErrTrieKey {
			t.Fatalf("P7.1: Get of %d bytes = %q, %v, %d", len(key), v, is, e)
		}
		if had, e := x.Delete([]byte(key)); had || e != api.ErrTrieKey {
			t.Fatalf("P7.1: Delete of %d bytes = %v, %d", len(key), had, e)
		}
		for _, value := range append(wrongValues(), "\x01", most) {
			if e := x.Put([]byte(key), []byte(value)); e != api.ErrTrieKey {
				t.Fatalf("P7.1: Put of %d bytes, with a value of %d = %d", len(key), len(value), e)
			}
		}
	}
	for _, key := range append(p.keys(), edgeKeys()...) {
		for _, value := range wrongValues() {
			if e := x.Put([]byte(key), []byte(value)); e != api.ErrTrieValue {
				t.Fatalf("P7.1: Put(%q) of a value of %d bytes = %d", key, len(value), e)
			}
		}
		if e := x.Put([]byte(key), nil); e != api.ErrTrieValue {
			t.Fatalf("P7.1: Put(%q) of nil = %d", key, e)
		}
	}
	alike(t, x, p, edgeKeys()...)
}

func TestP71WrongKeysAndValues(t *testing.T) {
	for _, p := range someTries() {
		x := trieOf(p)
		refuses(t, x, p)
		// What was refused is not seen later, either.
		do(t, x, p, step{full, "\x09"})
		alike(t, x, p, edgeKeys()...)
		refuses(t, x, p)
	}
}

func TestErrorNumbers(t *testing.T) {
	if e := trie.New().Put(make([]byte, 33), nil); e != 70 {
		t.Error("ErrTrieKey:", e)
	}
	if e := trie.New().Put(nil, make([]byte, 257)); e != 71 {
		t.Error("ErrTrieValue:", e)
	}
}

func TestR4NilAndEmptyAreTheSame(t *testing.T) {
	x := trie.New()
	for i, keys := range [][2][]byte{{nil, {}}, {{}, nil}} {
		x.Put(keys[0], []byte{byte(i + 1)})
		if v, is, e := x.Get(keys[1]); len(v) != 1 || int(v[0]) != i+1 || !is || e != api.OK {
			t.Error("R4: Get of no bytes:", v, is, e)
		}
		if had, e := x.Delete(keys[1]); !had || e != api.OK {
			t.Error("R4: Delete of no bytes:", had, e)
		}
	}
}

func TestR6TriesApart(t *testing.T) {
	x, p := made(t, step{"a", "\x01"}, step{"ab", long})
	y, q := made(t, step{"ab", "\x02"})
	do(t, x, p, step{"a", ""})
	alike(t, x, p, "a", "ab")
	alike(t, y, q, "a", "ab")
	alike(t, trie.New(), plain{}, "a", "ab")
}
