package trie_test

import (
	"bytes"
	"slices"
	"testing"

	"pergola/trie"
)

// scribble writes over a list and its spare room.
func scribble(b []byte) {
	all := b[:cap(b)]
	for i := range all {
		all[i] ^= 0xa5
	}
}

const spare = "\x01\x02\x03\x04 spare room"

// roomy is a copy of a text with spare room behind its end.
func roomy(text string) []byte { return append([]byte(text), spare...)[:len(text)] }

// whole asks that a roomy copy is as it was, and its spare room too.
func whole(t *testing.T, text string, b []byte) {
	t.Helper()
	if got := string(b[:len(text)+len(spare)]); got != text+spare {
		t.Fatalf("R5: what was handed in, %q, became %q", text+spare, got)
	}
}

func TestR5WhatIsHandedInStaysAsItIs(t *testing.T) {
	keys, values := append(edgeKeys(), wrongKeys()...), append(edgeValues(), wrongValues()...)
	for _, p := range someTries() {
		for i, text := range keys {
			x := trieOf(p)
			value := values[i%len(values)]
			key, v := roomy(text), roomy(value)
			x.Get(key)
			x.Put(key, v)
			x.Put(key, v)
			got, _, _ := x.Get(key)
			scribble(got)
			for k, v := range x.All() {
				scribble(k)
				scribble(v)
			}
			for _, b := range x.Nodes() {
				scribble(b)
			}
			x.Delete(key)
			x.Delete(key)
			whole(t, text, key)
			whole(t, value, v)
		}
	}
}

// What was handed in may be written over later, by the caller: also one memory for all keys and values.
func TestR5WhatIsHandedInIsNotKept(t *testing.T) {
	room := make([]byte, 1000)
	for _, p := range someTries() {
		x := trie.New()
		for key, value := range p {
			k := append(room[:0], key...)
			v := append(room[500:500], value...)
			x.Put(k, v)
			scribble(room)
		}
		alike(t, x, p)
		for key := range p {
			k := append(room[:0], key...)
			x.Get(k)
			scribble(room)
			k = append(room[:0], key...)
			x.Delete(append(k[:len(k):len(k)], 0))
			scribble(room)
			alike(t, x, p)
		}
		for _, key := range edgeKeys() {
			c, cp := x.Clone(), copyOf(p)
			cp.delete(key)
			c.Delete(append(room[:0], key...))
			scribble(room)
			alike(t, c, cp)
		}
		alike(t, x, p)
	}
}

// One memory for a key and its value.
func TestR5KeyAndValueInOneMemory(t *testing.T) {
	room := []byte("ab and more")
	x := trie.New()
	x.Put(room[:2], room[:2])
	x.Put(room[:1], room[:4])
	x.Put(room[:4], room[1:])
	scribble(room)
	alike(t, x, plain{"ab": "ab", "a": "ab a", "ab a": "b and more"})
}

func TestR5WritingOverWhatGetTold(t *testing.T) {
	for _, p := range someTries() {
		x := trieOf(p)
		c := x.Clone()
		for key, value := range p {
			first, _, _ := x.Get([]byte(key))
			second, _, _ := x.Get([]byte(key))
			third, _, _ := c.Get([]byte(key))
			scribble(first)
			_ = append(first, "behind"...)
			if string(second) != value || string(third) != value {
				t.Fatalf("R5: writing over a value is seen in another answer: %q, %q", second, third)
			}
		}
		alike(t, x, p)
		alike(t, c, p)
	}
}

func TestR5WritingOverWhatAllTold(t *testing.T) {
	for _, p := range someTries() {
		x := trieOf(p)
		c := x.Clone()
		var lists [][]byte
		for key, value := range x.All() {
			lists = append(lists, key, value)
		}
		want := toldOf(p)
		for i, b := range lists {
			scribble(b)
			for k, other := range lists[i+1:] {
				if string(other) != want[i+1+k] {
					t.Fatalf("R5: writing over %q is seen in %q", want[i], other)
				}
			}
		}
		alike(t, x, p)
		alike(t, c, p)
		// While it goes on, too.
		var l []string
		for key, value := range x.All() {
			l = append(l, string(key), string(value))
			scribble(key)
			scribble(value)
		}
		if !slices.Equal(l, want) {
			t.Fatalf("R5: writing over what was told while All goes on: %q", l)
		}
		alike(t, x, p)
	}
}

func TestR5WritingOverNodes(t *testing.T) {
	for _, p := range someTries() {
		x := trieOf(p)
		c := x.Clone()
		earlier := x.Nodes()
		_, want := p.nodes()
		l := x.Nodes()
		for i, b := range l {
			scribble(b)
			_ = append(b, "behind"...)
			for k, other := range l[i+1:] {
				if string(other) != want[i+1+k] {
					t.Fatalf("R5: writing over a node is seen in another one: %x", other)
				}
			}
		}
		for _, b := range l[:cap(l)] {
			scribble(b)
		}
		all := l[:cap(l)]
		for i := range all {
			all[i] = []byte("over")
		}
		if got := texts(earlier); !slices.Equal(got, want) {
			t.Fatalf("R5: writing over nodes is seen in an earlier answer: %x", got)
		}
		alike(t, x, p)
		alike(t, c, p)
	}
}

// R7: each of a trie, its clone and the clone's clone goes its own way.
func TestR7Clones(t *testing.T) {
	keys := edgeKeys()
	for _, p := range someTries() {
		for i := range keys {
			x, xp := trieOf(p), copyOf(p)
			y, yp := x.Clone(), copyOf(p)
			z, zp := y.Clone(), copyOf(p)
			for turn, s := range []step{{keys[i], "\x0a"}, {keys[(i+3)%len(keys)], long}, {keys[i], ""}, {keys[(i+7)%len(keys)], most}, {keys[(i+3)%len(keys)], ""}} {
				do(t, x, xp, s)
				if turn%2 == 0 {
					do(t, y, yp, step{s.key, other})
				} else {
					do(t, y, yp, step{s.key, ""})
				}
				alike(t, x, xp, keys...)
				alike(t, y, yp, keys...)
				alike(t, z, zp, keys...)
			}
			deleteAll(x)
			alike(t, y, yp, keys...)
			deleteAll(y)
			alike(t, z, zp, keys...)
			putAll(z, "anew")
			alike(t, x, plain{})
			alike(t, y, plain{})
		}
	}
}

// R7: long keys, put and deleted in all orders; of each trie on the way a clone is kept, which must stay as it was.
func TestR7ClonesOnTheWay(t *testing.T) {
	keys := []string{"abcccccc", "abdddddd", "aqqqqqqq", "abcccqqq"}
	all := orders(puts(keys...))
	for _, in := range all {
		for _, out := range all {
			x, p := made(t, in...)
			var clones []*trie.Trie
			var were []plain
			for _, s := range out {
				clones, were = append(clones, x.Clone()), append(were, copyOf(p))
				do(t, x, p, step{s.key, ""})
			}
			for i, c := range clones {
				alike(t, c, were[i], keys...)
			}
		}
	}
}

// What is told does not change the trie.
func TestR6Asking(t *testing.T) {
	for _, p := range someTries() {
		x := trieOf(p)
		root, nodes := x.Root(), x.Nodes()
		for range 3 {
			for _, key := range append(edgeKeys(), wrongKeys()...) {
				x.Get([]byte(key))
			}
			x.Len()
			told(x)
			if x.Root() != root || !slices.EqualFunc(x.Nodes(), nodes, bytes.Equal) {
				t.Fatal("R6: asking has changed the root, or the nodes")
			}
		}
	}
}
