package partial_test

import (
	"slices"
	"testing"

	"pergola/api"
	"pergola/trie"
)

// asTrie gives a Partial and a trie the same call: both must answer alike, and have one root.
func asTrie(t *testing.T, p tree, x *trie.Trie, c call) {
	t.Helper()
	got, want := c.of(p), c.of(x)
	if got != want || p.Root() != x.Root() {
		t.Fatalf("P10.7: %v = %v, not %v; Root = %x, not %x", c, got, want, p.Root(), x.Root())
	}
}

// Each call on each trie of few keys, with short values, long ones and both.
func TestP107EachCallOnSmallTries(t *testing.T) {
	keys := smallKeys()
	for set := range 1 << len(keys) {
		for turn, values := range [][]string{{"\x01"}, {long}, {"\x01", long, "\x02"}} {
			x := trie.New()
			for i, key := range keys {
				if set>>i&1 == 1 {
					x.Put([]byte(key), []byte(values[(i+turn)%len(values)]))
				}
			}
			p := partialOf(x)
			for _, key := range keys {
				asTrie(t, p, x, get(key))
				for _, c := range []call{put(key, "\x07"), put(key, other), del(key)} {
					asTrie(t, partialOf(x), x.Clone(), c)
				}
			}
		}
	}
}

// All keys are taken away, in this order and that, and laid in again.
func TestP107UpAndDown(t *testing.T) {
	keys := edgeKeys()
	for _, p := range someTries() {
		for step := 1; step < len(keys); step += 2 {
			x := trieOf(p)
			y := partialOf(x)
			for round := range 3 {
				for i := range keys {
					key := keys[(i*step+round)%len(keys)]
					value := []string{"\x01", long, most}[(i+round)%3]
					asTrie(t, y, x, put(key, value))
					asTrie(t, y, x, get(keys[i]))
				}
				for i := range keys {
					asTrie(t, y, x, del(keys[(i*step*3+round)%len(keys)]))
					asTrie(t, y, x, get(keys[i]))
				}
			}
			for _, key := range append(wrongKeys(), keys...) {
				asTrie(t, y, x, del(key))
				asTrie(t, y, x, put(key, ""))
			}
		}
	}
}

// someCalls are calls of keys out of a pool, in an order that is no simple one.
func someCalls(seed uint32, keys []string, count int) []call {
	var l []call
	values := []string{"\x01", long, "\x80", other, most, "\x02"}
	n := next(seed * 2654435761)
	for range count {
		n = next(n)
		key, value := keys[int(n>>9)%len(keys)], values[n>>3%6]
		switch n >> 28 % 8 {
		case 0, 1:
			l = append(l, get(key))
		case 2, 3, 4:
			l = append(l, put(key, value))
		default:
			l = append(l, del(key))
		}
	}
	return l
}

// wordKeys are keys of eight bytes, as those of words, near each other.
func wordKeys() []string {
	var l []string
	for i := range 24 {
		key := make([]byte, 8)
		key[7], key[6], key[i%8] = byte(i*37), byte(i/5), byte(i*11)
		l = append(l, string(key))
	}
	return l
}

func TestP107ManyCalls(t *testing.T) {
	for _, keys := range [][]string{smallKeys(), edgeKeys(), wordKeys()} {
		for seed := range uint32(40) {
			x := trie.New()
			for _, c := range someCalls(seed, keys, 20) {
				c.of(x)
			}
			p := partialOf(x)
			for _, c := range someCalls(seed+1000, keys, 100) {
				asTrie(t, p, x, c)
			}
		}
	}
}

// The nodes in any order, with others among them.
func TestP107NodesInAnyOrder(t *testing.T) {
	more := slices.Concat(noNodes(), trieOf(pairs{"a": long, "b": other, "ab": most}).Nodes())
	for seed := range uint32(30) {
		x := trie.New()
		for _, c := range someCalls(seed, edgeKeys(), 30) {
			c.of(x)
		}
		nodes := slices.Concat(more, x.Nodes(), x.Nodes())
		n := next(seed)
		for i := range nodes {
			n = next(n)
			k := int(n>>8) % (i + 1)
			nodes[i], nodes[k] = nodes[k], nodes[i]
		}
		b := begin(t, x.Root(), nodes)
		for _, c := range someCalls(seed+77, edgeKeys(), 60) {
			if want := c.of(x); b.do(c) != want || b.p.Root() != x.Root() || want.e == api.ErrWitness {
				t.Fatalf("P10.7: %v is not %v, or the root is another one", c, want)
			}
		}
	}
}
