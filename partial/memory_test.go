package partial_test

import (
	"slices"
	"strings"
	"testing"

	"pergola/api"
	"pergola/partial"
	"pergola/trie"
)

// scribble writes over a list and its spare room.
func scribble(b []byte) {
	all := b[:cap(b)]
	for i := range all {
		all[i] ^= 0xa5
	}
}

// scribbleAll writes over all things of a list, and over the list and its spare room.
func scribbleAll(l [][]byte) {
	all := l[:cap(l)]
	for i := range all {
		scribble(all[i])
		all[i] = []byte("over")
	}
}

const spare = "\x01\x02\x03\x04 spare room"

// roomy is a copy of a text with spare room behind its end.
func roomy(text string) []byte { return append([]byte(text), spare...)[:len(text)] }

// whole asks that a roomy copy is as it was, and its spare room too.
func whole(t *testing.T, text string, b []byte) {
	t.Helper()
	if got := string(b[:len(text)+len(spare)]); got != text+spare {
		t.Fatalf("R5: what was handed in, %q, became %q", text+spare, got)
	}
}

// roomyList is a copy of a list, with spare room behind its end and behind each thing's.
func roomyList(l [][]byte) [][]byte {
	c := make([][]byte, 0, len(l)+1)
	for _, b := range l {
		c = append(c, roomy(string(b)))
	}
	return append(c, []byte(spare))[:len(l)]
}

func wholeList(t *testing.T, l, given [][]byte) {
	t.Helper()
	for i, b := range l {
		whole(t, string(b), given[i])
	}
	if behind := given[:len(l)+1][len(l)]; string(behind) != spare {
		t.Fatalf("R5: the room behind a list became %q", behind)
	}
}

// rough is a Partial whose calls are handed memory that is written over right behind them, and whose answers are, too.
type rough struct {
	t *testing.T
	p *partial.Partial
}

func (r rough) Get(key []byte) ([]byte, bool, api.Errno) {
	r.t.Helper()
	given := roomy(string(key))
	v, is, e := r.p.Get(given)
	whole(r.t, string(key), given)
	scribble(given)
	told := slices.Clone(v)
	scribble(v)
	return told, is, e
}

func (r rough) Put(key, value []byte) api.Errno {
	r.t.Helper()
	k, v := roomy(string(key)), roomy(string(value))
	e := r.p.Put(k, v)
	whole(r.t, string(key), k)
	whole(r.t, string(value), v)
	scribble(k)
	scribble(v)
	return e
}

func (r rough) Delete(key []byte) (bool, api.Errno) {
	r.t.Helper()
	given := roomy(string(key))
	is, e := r.p.Delete(given)
	whole(r.t, string(key), given)
	scribble(given)
	return is, e
}

func (r rough) Root() api.Digest { return r.p.Root() }

// used tells what Used does, and writes over it.
func (r rough) used() []string {
	l := r.p.Used()
	told := texts(l)
	scribbleAll(l)
	return told
}

// newRough hands New memory that is written over right behind it.
func newRough(t *testing.T, root api.Digest, nodes [][]byte) rough {
	t.Helper()
	given := roomyList(nodes)
	p := partial.New(root, given)
	wholeList(t, nodes, given)
	scribbleAll(given)
	return rough{t, p}
}

func TestR5WritingOverEverything(t *testing.T) {
	for _, p := range someTries() {
		x := trieOf(p)
		for seed := range uint32(6) {
			nodes := slices.Concat(x.Nodes(), noNodes())
			if seed%3 > 0 && len(p) > 0 {
				nodes = nodes[1:]
			}
			r, m := newRough(t, x.Root(), nodes), newPlain(x.Root(), nodes)
			for _, c := range someCalls(seed, append(edgeKeys(), wrongKeys()[0]), 60) {
				if got, want := c.of(r), c.ofPlain(m); got != want {
					t.Fatalf("R5: %v = %v, not %v", c, got, want)
				}
				if got := r.used(); r.Root() != m.root() || !slices.Equal(got, m.usedTexts()) {
					t.Fatalf("R5: behind %v Root or Used is another one: %x", c, got)
				}
			}
		}
	}
}

// The nodes of New may be written over while nothing was looked for yet, and between calls.
func TestR5NodesOfNewAreNotKept(t *testing.T) {
	for _, p := range someTries() {
		x := trieOf(p)
		nodes := roomyList(x.Nodes())
		y := partial.New(x.Root(), nodes)
		for _, key := range edgeKeys() {
			for _, b := range nodes {
				scribble(b)
			}
			value, has := p[key]
			if v, is, e := y.Get([]byte(key)); string(v) != value || is != has || e != api.OK {
				t.Fatalf("R5: writing over nodes is seen: Get(%q) = %q, %v, %d", key, v, is, e)
			}
		}
		scribbleAll(nodes)
		if got, want := texts(y.Used()), texts(x.Nodes()); len(p) > 0 && !subset(got, want) {
			t.Fatalf("R5: writing over nodes is seen in Used: %x", got)
		}
		for _, key := range edgeKeys() {
			asTrie(t, y, x, del(key))
		}
	}
}

func subset(some, all []string) bool {
	for _, text := range some {
		if !slices.Contains(all, text) {
			return false
		}
	}
	return true
}

// The nodes, a key and a value stand in one memory.
func TestR5OneMemory(t *testing.T) {
	x := trieOf(pairs{"ab": long, "ac": other})
	nodes := x.Nodes()
	room := []byte("abVALUE" + strings.Join(texts(nodes), ""))
	before := string(room)
	var given [][]byte
	at := 7
	for _, b := range nodes {
		given = append(given, room[at:at+len(b)])
		at += len(b)
	}
	p := partial.New(x.Root(), given)
	v, is, e := p.Get(room[:2])
	scribble(v)
	if !is || e != api.OK || p.Put(room[:2], room[2:7]) != api.OK {
		t.Fatal("R5: calls in one memory:", is, e)
	}
	if string(room) != before {
		t.Fatalf("R5: what was handed in became %q", room)
	}
	scribble(room)
	x.Put([]byte("ab"), []byte("VALUE"))
	asTrie(t, p, x, get("ab"))
	asTrie(t, p, x, get("ac"))
}

func TestR5WritingOverAValue(t *testing.T) {
	for _, p := range someTries() {
		x := trieOf(p)
		y := partialOf(x)
		c := y.Clone()
		for key, value := range p {
			first, _, _ := y.Get([]byte(key))
			second, _, _ := y.Get([]byte(key))
			third, _, _ := c.Get([]byte(key))
			scribble(first)
			_ = append(first, "behind"...)
			if string(second) != value || string(third) != value {
				t.Fatalf("R5: writing over a value is seen in another answer: %q, %q", second, third)
			}
			asTrie(t, y, x, get(key))
			asTrie(t, c, x, get(key))
		}
	}
}

func TestR5WritingOverUsed(t *testing.T) {
	for _, p := range someTries() {
		x := trieOf(p)
		y := partialOf(x)
		for _, key := range edgeKeys() {
			y.Get([]byte(key))
		}
		c, earlier := y.Clone(), y.Used()
		want := texts(earlier)
		l := y.Used()
		for i, b := range l {
			scribble(b)
			_ = append(b, "behind"...)
			for k, other := range l[i+1:] {
				if string(other) != want[i+1+k] {
					t.Fatalf("R5: writing over a node is seen in another one: %x", other)
				}
			}
		}
		scribbleAll(l)
		for name, got := range map[string][][]byte{"an earlier answer": earlier, "a later one": y.Used(), "a clone's": c.Used()} {
			if !slices.Equal(texts(got), want) {
				t.Fatalf("R5: writing over Used is seen in %s: %x", name, got)
			}
		}
		scribbleAll(earlier)
		for _, key := range edgeKeys() {
			asTrie(t, y, x, get(key))
			asTrie(t, y, x, del(key))
		}
	}
}

// R7: each of a Partial, its clone and the clone's clone goes its own way, with what it has used.
func TestR7Clones(t *testing.T) {
	for seed := range uint32(80) {
		var first both
		if seed%2 == 0 {
			nodes := grove(seed)
			first = begin(t, textBy(nodes[39]).Digest, nodes[seed%3:])
		} else {
			x := trie.New()
			for _, c := range someCalls(seed, groveKeys(), 30) {
				c.of(x)
			}
			first = begin(t, x.Root(), x.Nodes()[seed/2%2:])
		}
		all := []both{first}
		for i, c := range someCalls(seed+3, groveKeys(), 60) {
			if i%10 == 0 {
				all = append(all, all[i/10%len(all)].clone())
			}
			all[(i*7+int(seed))%len(all)].do(c)
			for _, b := range all {
				b.same(c)
			}
		}
		for _, b := range all {
			for _, key := range groveKeys() {
				b.do(get(key))
			}
		}
	}
}

// R7: long keys, put and deleted in all orders; of each Partial on the way a clone is kept, which must stay as it was.
func TestR7ClonesOnTheWay(t *testing.T) {
	keys := []string{"abcccccc", "abdddddd", "aqqqqqqq", "abcccqqq"}
	orders := ordersOf(keys)
	for _, in := range orders {
		for _, out := range orders {
			p := partial.New(trie.New().Root(), nil)
			var clones []*partial.Partial
			for _, key := range in {
				p.Put([]byte(key), []byte(key))
			}
			for _, key := range out {
				clones = append(clones, p.Clone())
				p.Delete([]byte(key))
			}
			for i, c := range clones {
				for k, key := range out {
					value := key
					if k < i {
						value = ""
					}
					if v, is, e := c.Get([]byte(key)); string(v) != value || is != (k >= i) || e != api.OK {
						t.Fatalf("R7: what was done later is seen at a clone: Get(%q) = %q, %v, %d", key, v, is, e)
					}
				}
			}
		}
	}
}

// ordersOf are all orders of some keys.
func ordersOf(keys []string) [][]string {
	if len(keys) == 0 {
		return [][]string{nil}
	}
	var all [][]string
	for i, key := range keys {
		for _, rest := range ordersOf(slices.Delete(slices.Clone(keys), i, i+1)) {
			all = append(all, append([]string{key}, rest...))
		}
	}
	return all
}

// R7: one goes on and the other does not: what the one finds is not told by the other.
func TestR7OneGoesOn(t *testing.T) {
	for _, p := range someTries() {
		x := trieOf(p)
		for _, still := range []bool{true, false} {
			y := partialOf(x)
			c := y.Clone()
			if still {
				y, c = c, y
			}
			for _, key := range edgeKeys() {
				y.Get([]byte(key))
				y.Delete([]byte(key))
				y.Put([]byte(key), []byte(most))
				if c.Root() != x.Root() || len(c.Used()) != 0 {
					t.Fatalf("R7: a call of %q is seen at the other one", key)
				}
			}
			for _, key := range edgeKeys() {
				asTrie(t, c, x, get(key))
			}
		}
	}
}

// R6: asking changes nothing but what Used tells.
func TestR6Asking(t *testing.T) {
	for _, p := range someTries() {
		x := trieOf(p)
		y := partialOf(x)
		for range 3 {
			for _, key := range append(edgeKeys(), wrongKeys()...) {
				asTrie(t, y, x, get(key))
				y.Used()
				y.Clone().Delete([]byte(key))
			}
		}
	}
}
