package trie_test

import (
	"maps"
	"slices"
	"testing"

	"pergola/digest"
	"pergola/trie"
)

func copyOf(p plain) plain { return maps.Clone(p) }

// orders are all orders of some steps.
func orders(l []step) [][]step {
	if len(l) == 0 {
		return [][]step{nil}
	}
	var all [][]step
	for i, s := range l {
		for _, rest := range orders(slices.Delete(slices.Clone(l), i, i+1)) {
			all = append(all, append([]step{s}, rest...))
		}
	}
	return all
}

func TestP75AllOrdersOfPut(t *testing.T) {
	for _, p := range someTries() {
		var l []step
		for _, key := range p.keys() {
			l = append(l, step{key, p[key]})
		}
		want := trieOf(p)
		for _, order := range orders(l) {
			x, _ := made(t, order...)
			same(t, "P7.5: an order of Put", x, want)
		}
	}
}

// Keys that were there for a while, from each place to each other one, and values that were others, are not seen.
func TestP75WhatWasPutAndDeleted(t *testing.T) {
	for _, p := range someTries() {
		keys := p.keys()
		want := trieOf(p)
		for _, extra := range edgeKeys() {
			if _, there := p[extra]; there {
				continue
			}
			for from := range len(keys) + 1 {
				for to := from; to <= len(keys); to++ {
					x := trie.New()
					for i := range len(keys) + 1 {
						if i == from {
							x.Put([]byte(extra), []byte(most))
						}
						if i == to {
							x.Delete([]byte(extra))
						}
						if i < len(keys) {
							x.Put([]byte(keys[i]), []byte(other))
							x.Put([]byte(keys[i]), []byte(p[keys[i]]))
						}
					}
					same(t, "P7.5: a key that was there for a while", x, want)
				}
			}
		}
	}
}

// Each key is deleted and put again, in all tries; and all of them.
func TestP75DeletedAndPutAgain(t *testing.T) {
	for _, p := range someTries() {
		want, x := trieOf(p), trieOf(p)
		for key, value := range p {
			x.Delete([]byte(key))
			x.Put([]byte(key), []byte(value))
			same(t, "P7.5: a key that was deleted and put again", x, want)
		}
		for key := range p {
			x.Delete([]byte(key))
		}
		alike(t, x, plain{}, p.keys()...)
		for key, value := range p {
			x.Put([]byte(key), []byte(value))
		}
		same(t, "P7.5: all keys, deleted and put again", x, want)
	}
}

// Rows of calls whose keys, values and order look like any.
func TestP75LongRows(t *testing.T) {
	keys := append(edgeKeys(), smallKeys()...)
	for i := range 30 {
		d := digest.Of([]byte{byte(i)})
		keys = append(keys, string(d[:1+i%32]), string(d[:8]))
	}
	values := edgeValues()
	for seed := range uint32(2) {
		x, p, n := trie.New(), plain{}, seed
		c, cp := x.Clone(), copyOf(p)
		for i := range 1200 {
			n = next(n)
			s := step{keys[n>>8%uint32(len(keys))], values[n>>20%uint32(len(values))]}
			// Now and then there are few keys, now and then many.
			if fewer := uint32(i / 300 % 2 * 2); n>>28%4 <= fewer {
				s.value = ""
			}
			do(t, x, p, s)
			alike(t, x, p, s.key)
			if i%20 == 0 {
				alike(t, c, cp, s.key)
				c, cp = x.Clone(), copyOf(p)
			}
		}
		same(t, "P7.5: behind many calls", x, trieOf(p))
	}
}

// Many keys of eight bytes, as those of words.
func TestP75ManyKeysInUnlikeOrders(t *testing.T) {
	const count = 2000
	key := func(i int) string {
		d := digest.Of([]byte{byte(i), byte(i >> 8)})
		return string(d[:8])
	}
	p := plain{}
	for i := range count {
		p[key(i)] = key(i + 1)
	}
	want := trieOf(p)
	alike(t, want, p, "", key(0)[:7])
	for _, by := range []int{1, 7, 1999} {
		x := trie.New()
		for i := range count {
			at := i * by % count
			x.Put([]byte(key(at)), []byte(key(at+1)))
			x.Put([]byte(key(at)[:7]), []byte(long))
		}
		for i := range count {
			x.Delete([]byte(key(i * by * 3 % count)[:7]))
		}
		for i := range count {
			x.Delete([]byte(key(i)[:7]))
		}
		same(t, "P7.5: many keys", x, want)
	}
}

// What is done to one key does not bear on another one's value.
func TestP76OtherKeys(t *testing.T) {
	keys := edgeKeys()
	for _, one := range keys {
		for _, value := range []string{"\x01", long, ""} {
			x := trie.New()
			for i, key := range keys {
				x.Put([]byte(key), []byte{byte(i), 1})
			}
			do(t, x, plain{one: "was"}, step{one, value})
			for i, key := range keys {
				if v, is, _ := x.Get([]byte(key)); key != one && (string(v) != string([]byte{byte(i), 1}) || !is) {
					t.Fatalf("P7.6: behind %v: Get(%q) = %q, %v", step{one, value}, key, v, is)
				}
			}
		}
	}
}
