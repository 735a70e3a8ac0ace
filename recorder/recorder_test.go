package recorder_test

import (
	"strings"
	"testing"

	"pergola/api"
	"pergola/node"
	"pergola/partial"
	"pergola/recorder"
	"pergola/trie"
)

func TestExamples(t *testing.T) {
	x := trieOf(pairs{"a": "\x01"})
	w := watch(t, x)
	w.notes("New")
	w.says(get("b"), answer{})
	w.notes("Get(`b`)", leaf("61", "\x01"))
	w = watch(t, trie.New())
	w.says(put("a", "\x01"), answer{})
	w.says(get("a"), answer{"\x01", true, api.OK})
	w.notes("of an empty trie")
	if w.r.Root() != x.Root() {
		t.Error("P11.1: Root is not that of the trie with the same key")
	}
}

func TestNumbersOfTheErrors(t *testing.T) {
	for _, p := range someTries() {
		r := recorder.New(trieOf(p))
		if v, is, e := r.Get([]byte(full + "k")); len(v) > 0 || is || e != 70 {
			t.Error("P11.1: Get of 33 bytes:", v, is, e)
		}
		if e := r.Put([]byte(full+"k"), nil); e != 70 {
			t.Error("P11.1: Put of 33 bytes, and of no value:", e)
		}
		if e := r.Put(nil, nil); e != 71 {
			t.Error("P11.1: Put of no value:", e)
		}
		if e := r.Put([]byte(full), []byte(most+"V")); e != 71 {
			t.Error("P11.1: Put of 257 bytes:", e)
		}
		if is, e := r.Delete([]byte(full + "k")); is || e != 70 {
			t.Error("P11.1: Delete of 33 bytes:", is, e)
		}
	}
}

// A recorder of an empty trie has nothing to note, whatever is asked.
func TestP112OfAnEmptyTrie(t *testing.T) {
	emptied := trieOf(someTries()["long ones inside"])
	for key := range emptied.All() {
		emptied.Delete(key)
	}
	for _, x := range []*trie.Trie{trie.New(), emptied} {
		w := watch(t, x)
		if w.r.Root() != node.EmptyRoot() {
			t.Error("P11.1: Root of an empty trie")
		}
		for i, key := range edgeKeys() {
			w.says(get(key), answer{})
			w.says(del(key), answer{})
			value := []string{"\x01", long, most}[i%3]
			w.says(put(key, value), answer{})
			w.says(get(key), answer{value, true, api.OK})
		}
		for _, key := range edgeKeys() {
			w.says(del(key), answer{is: true})
			w.says(get(key), answer{})
		}
		w.notes("of an empty trie")
		w.enough()
		if w.r.Root() != node.EmptyRoot() {
			t.Error("P11.1: Root behind the last Delete")
		}
	}
}

// Of one key, a short leaf or a long one: whatever is asked first notes the leaf.
func TestP112OfOneKey(t *testing.T) {
	for _, key := range []string{"", "a", full[:31], full} {
		for _, value := range []string{"\x01", long, most} {
			x := trieOf(pairs{key: value})
			top := leaf(digitsOf(key), value)
			for _, c := range []call{get(key), get("q"), get(""), put(key, "\x05"), put(key, value), put("q", most), del(key), del("q"), get(full)} {
				w := watch(t, x)
				w.do(c)
				w.notes(c.String(), top)
				w.do(put(key, other))
				w.do(get("q"))
				w.do(del(key))
				w.do(get(key))
				w.notes(c.String(), top)
				w.enough()
				w.noMore()
			}
		}
	}
}

// A call that is refused changes nothing and notes nothing.
func TestP111P112RefusedCalls(t *testing.T) {
	var wrong []call
	for _, key := range wrongKeys() {
		wrong = append(wrong, get(key), put(key, long), put(key, ""), put(key, most+"V"), del(key))
	}
	for _, key := range append(edgeKeys(), wrongKeys()...) {
		for _, value := range wrongValues() {
			wrong = append(wrong, put(key, value))
		}
	}
	for name, p := range someTries() {
		w := watch(t, trieOf(p))
		for _, c := range wrong {
			if w.do(c).e == api.OK {
				t.Fatalf("P11.1: %v is not refused", c)
			}
		}
		w.notes(name)
		w.enough()
		for i, c := range someCalls(7, edgeKeys(), 40) {
			before := w.r.Root()
			if w.do(wrong[i*13%len(wrong)]); w.r.Root() != before {
				t.Fatalf("P11.1: %v has changed the root", wrong[i*13%len(wrong)])
			}
			w.do(c)
		}
		w.enough()
	}
}

// Keys and values at their limits are taken.
func TestP111Limits(t *testing.T) {
	for _, p := range someTries() {
		w := watch(t, trieOf(p))
		for _, key := range []string{"", "\x00", full, strings.Repeat("\x00", 32), strings.Repeat("\xff", 32)} {
			for _, value := range []string{"\x00", most, strings.Repeat("\x00", 256)} {
				w.says(put(key, value), answer{})
				w.says(get(key), answer{value, true, api.OK})
			}
			w.says(del(key), answer{is: true})
			w.says(del(key), answer{})
		}
		w.enough()
	}
}

// Each call on each trie of few keys, with short values, long ones and both; and each call behind it.
func TestEachCallOnSmallTries(t *testing.T) {
	keys := smallKeys()
	for set := range 1 << len(keys) {
		for turn, values := range [][]string{{"\x01"}, {long}, {"\x01", long, "\x02"}} {
			p := pairs{}
			for i, key := range keys {
				if set>>i&1 == 1 {
					p[key] = values[(i+turn)%len(values)]
				}
			}
			x := trieOf(p)
			for i, key := range keys {
				again := keys[(i*3+set)%len(keys)]
				for _, l := range [][]call{{get(key), del(key)}, {put(key, "\x07"), del(again)}, {put(key, other), get(again)}, {del(key), put(again, long)}, {del(key), del(again)}} {
					w := watch(t, x)
					w.do(l[0])
					w.do(l[1])
					w.enough()
				}
			}
		}
	}
}

// All keys are taken away, in this order and that, and laid in again.
func TestUpAndDown(t *testing.T) {
	keys := edgeKeys()
	for _, p := range someTries() {
		for step := 1; step < len(keys); step += 6 {
			w := watch(t, trieOf(p))
			for i := range keys {
				w.do(del(keys[i*step%len(keys)]))
				w.do(get(keys[i]))
			}
			w.enough()
			for i := range keys {
				w.do(put(keys[i*step*3%len(keys)], []string{"\x01", long, most}[i%3]))
				w.do(get(keys[i]))
			}
			for i := range keys {
				w.do(del(keys[(i*step+5)%len(keys)]))
			}
			w.enough()
			w.noMore()
		}
	}
}

func TestManyCalls(t *testing.T) {
	for _, keys := range [][]string{smallKeys(), edgeKeys(), wordKeys()} {
		for seed := range uint32(25) {
			w := watch(t, grown(seed, keys, 30))
			for i, c := range someCalls(seed+1000, keys, 50) {
				w.do(c)
				if i%7 == 0 {
					w.enough()
				}
			}
			w.enough()
			w.noMore()
		}
	}
}

// P11.3: what is noted is enough behind each call, for all up to that one.
func TestP113BehindEachCall(t *testing.T) {
	for _, p := range someTries() {
		for seed := range uint32(8) {
			w := watch(t, trieOf(p))
			for _, c := range someCalls(seed, edgeKeys(), 20) {
				w.do(c)
				w.enough()
				w.noMore()
			}
		}
	}
}

// P11.3: the root, too, is the one that the recorder comes to.
func TestP113SameRoot(t *testing.T) {
	for seed := range uint32(60) {
		x := grown(seed, wordKeys(), 30)
		r := recorder.New(x)
		calls := someCalls(seed+9, wordKeys(), 12)
		for _, c := range calls {
			c.of(r)
		}
		p := partial.New(x.Root(), r.Notes())
		for _, c := range calls {
			if a := c.of(p); a.e != api.OK {
				t.Fatalf("P11.3: %v = %v", c, a)
			}
		}
		if p.Root() != r.Root() {
			t.Fatalf("P11.3: Root = %x, not %x", p.Root(), r.Root())
		}
	}
}

// A great trie: few calls note few nodes.
func TestP112OfAGreatTrie(t *testing.T) {
	x := trie.New()
	for i := range 2000 {
		x.Put([]byte{byte(i >> 8), byte(i * 3), byte(i)}, []byte(long[:1+i%40]))
	}
	w := watch(t, x)
	for i := range 12 {
		n := i * 157
		key := string([]byte{byte(n >> 8), byte(n * 3), byte(n)})
		w.do([]call{get(key), put(key, other), del(key), del(key + "\x00")}[i%4])
	}
	if n := len(w.r.Notes()); n == 0 || n > 12*8 {
		t.Error("P11.4: Notes of a dozen calls:", n)
	}
	w.enough()
	w.noMore()
}

// ladder is the trie of a key of n noughts and of those that part from it at each nibble: as many nodes as may be are on its way, each named by a digest.
func ladder(n int) (*trie.Trie, string) {
	key := strings.Repeat("\x00", n)
	x := trie.New()
	x.Put([]byte(key), []byte(long))
	for i := range n {
		x.Put([]byte(key[:i]+"\x10"), []byte(long+key[:i]))
		x.Put([]byte(key[:i]+"\x01"), []byte(other+key[:i]))
	}
	return x, key
}

// P11.4: just so many are noted where a way is as long as may be.
func TestP114AsManyAsMayBe(t *testing.T) {
	for _, n := range []int{1, 2, 3, 8, 31, 32} {
		x, key := ladder(n)
		for _, k := range []struct {
			c    call
			want int
		}{{get(key), 2*n + 1}, {put(key, other), 2*n + 1}, {put(key, "\x01"), 2*n + 1}, {del(key), 2*n + 2}, {get(key[1:]), 2*n - 1}, {del(key[1:]), 2*n - 1}} {
			w := watch(t, x)
			w.do(k.c)
			if got := len(w.r.Notes()); got != k.want {
				t.Errorf("P11.4: %v notes %d, not %d", k.c, got, k.want)
			}
			w.do(k.c)
			w.enough()
			w.noMore()
		}
	}
	// Of the key of no bytes: the topmost node; and the one kid that is left.
	x := trieOf(pairs{"": long, "a": other})
	for c, want := range map[call]int{get(""): 1, put("", long): 1, del(""): 2} {
		w := watch(t, x)
		w.do(c)
		if got := len(w.r.Notes()); got != want {
			t.Errorf("P11.4: %v notes %d, not %d", c, got, want)
		}
	}
}
