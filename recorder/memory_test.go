package recorder_test

import (
	"maps"
	"slices"
	"testing"

	"pergola/api"
	"pergola/recorder"
	"pergola/trie"
)

// scribble writes over a list and its spare room.
func scribble(b []byte) {
	all := b[:cap(b)]
	for i := range all {
		all[i] ^= 0xa5
	}
}

// scribbleAll writes over all things of a list, and over the list and its spare room.
func scribbleAll(l [][]byte) {
	all := l[:cap(l)]
	for i := range all {
		scribble(all[i])
		all[i] = []byte("over")
	}
}

const spare = "\x01\x02\x03\x04 spare room"

// roomy is a copy of a text with spare room behind its end.
func roomy(text []byte) []byte { return append(slices.Clone(text), spare...)[:len(text)] }

// whole asks that a roomy copy is as it was, and its spare room too; then it writes over it.
func whole(t *testing.T, text, b []byte) {
	t.Helper()
	if got := string(b[:len(text)+len(spare)]); got != string(text)+spare {
		t.Fatalf("R5: what was handed in, %q, became %q", string(text)+spare, got)
	}
	scribble(b)
}

// rough is a recorder whose calls are handed memory that is written over right behind them, and whose answers are, too.
type rough struct {
	t *testing.T
	r *recorder.Recorder
}

func (r rough) Get(key []byte) ([]byte, bool, api.Errno) {
	r.t.Helper()
	given := roomy(key)
	v, is, e := r.r.Get(given)
	whole(r.t, key, given)
	told := slices.Clone(v)
	scribble(v)
	return told, is, e
}

func (r rough) Put(key, value []byte) api.Errno {
	r.t.Helper()
	k, v := roomy(key), roomy(value)
	e := r.r.Put(k, v)
	whole(r.t, key, k)
	whole(r.t, value, v)
	return e
}

func (r rough) Delete(key []byte) (bool, api.Errno) {
	r.t.Helper()
	given := roomy(key)
	is, e := r.r.Delete(given)
	whole(r.t, key, given)
	return is, e
}

func (r rough) Root() api.Digest { return r.r.Root() }

func (r rough) Notes() [][]byte {
	l := r.r.Notes()
	var told [][]byte
	for _, b := range l {
		told = append(told, slices.Clone(b))
	}
	scribbleAll(l)
	return told
}

func TestR5WritingOverEverything(t *testing.T) {
	for _, p := range someTries() {
		for seed := range uint32(4) {
			w := watchAs(t, trieOf(p), func(x *trie.Trie) noter { return rough{t, recorder.New(x)} })
			for _, c := range someCalls(seed, append(edgeKeys(), wrongKeys()[0]), 50) {
				w.do(c)
			}
			w.enough()
		}
	}
}

// What a value was told as is seen in no other answer: of this recorder, of another one, of the trie.
func TestR5WritingOverAValue(t *testing.T) {
	for _, p := range someTries() {
		x := trieOf(p)
		r, q := recorder.New(x), recorder.New(x)
		for key, value := range p {
			first, _, _ := r.Get([]byte(key))
			second, _, _ := r.Get([]byte(key))
			third, _, _ := q.Get([]byte(key))
			fourth, _, _ := x.Get([]byte(key))
			scribble(first)
			_ = append(first, "behind"...)
			last, _, _ := r.Get([]byte(key))
			for _, v := range [][]byte{second, third, fourth, last} {
				if string(v) != value {
					t.Fatalf("R5: writing over a value is seen in another answer: %q", v)
				}
			}
		}
		if r.Root() != x.Root() || !maps.Equal(pairsOf(x), p) {
			t.Fatal("R5: writing over values is seen")
		}
	}
}

func TestR5WritingOverNotes(t *testing.T) {
	for _, p := range someTries() {
		x := trieOf(p)
		w := watch(t, x)
		for _, key := range edgeKeys() {
			w.do(get(key))
		}
		earlier := w.r.Notes()
		want := texts(earlier)
		l := w.r.Notes()
		for i, b := range l {
			scribble(b)
			_ = append(b, "behind"...)
			if !slices.Equal(texts(l[i+1:]), want[i+1:]) {
				t.Fatalf("R5: writing over a node is seen in another one: %x", l[i+1:])
			}
		}
		scribbleAll(l)
		for name, got := range map[string][][]byte{"an earlier answer": earlier, "a later one": w.r.Notes()} {
			if !slices.Equal(texts(got), want) {
				t.Fatalf("R5: writing over Notes is seen in %s: %x", name, got)
			}
		}
		scribbleAll(earlier)
		if !slices.Equal(texts(x.Nodes()), w.nodes) {
			t.Fatal("R5: writing over Notes is seen in the trie's nodes")
		}
		for _, key := range edgeKeys() {
			w.do(get(key))
			w.do(del(key))
		}
		w.enough()
	}
}

// The nodes that the trie told, ahead of New and behind it, may be written over.
func TestR5WritingOverNodesOfTheTrie(t *testing.T) {
	for _, p := range someTries() {
		x := trieOf(p)
		earlier := x.Nodes()
		w := watch(t, x)
		scribbleAll(earlier)
		scribbleAll(x.Nodes())
		for _, c := range someCalls(3, edgeKeys(), 30) {
			w.do(c)
		}
		w.enough()
	}
}

// A key and a value in one memory, which is written over.
func TestR5OneMemory(t *testing.T) {
	room := []byte("abVALUE")
	r := recorder.New(trieOf(pairs{"ab": long, "ac": other}))
	if e := r.Put(room[:2], room[:7]); e != api.OK || string(room) != "abVALUE" {
		t.Fatal("R5: Put in one memory:", e, string(room))
	}
	scribble(room)
	if want := trieOf(pairs{"ab": "abVALUE", "ac": other}).Root(); r.Root() != want {
		t.Fatalf("R5: Root = %x, not %x", r.Root(), want)
	}
}

// P11.1: what is done to the trie behind New is not seen at the recorder, nor the other way round: ahead of the recorder's first call, between its calls, in turn.
func TestP111EachGoesItsOwnWay(t *testing.T) {
	for name, p := range someTries() {
		for seed := range uint32(4) {
			x, now := trieOf(p), trieOf(p)
			w := watch(t, x)
			for i, c := range someCalls(seed, edgeKeys(), 40) {
				w.same("what was done to the trie")
				if i > 8 || seed%2 == 0 {
					w.do(c)
				}
				if x.Root() != now.Root() {
					t.Fatalf("P11.1: %s: %v is seen at the trie", name, c)
				}
				for _, c := range someCalls(seed*100+uint32(i), edgeKeys(), 3) {
					if got, want := c.of(x), c.of(now); got != want {
						t.Fatalf("P11.1: %s: of the trie %v = %v, not %v", name, c, got, want)
					}
				}
			}
			w.enough()
			if !slices.Equal(texts(x.Nodes()), texts(now.Nodes())) || !maps.Equal(pairsOf(x), pairsOf(now)) {
				t.Fatalf("P11.1: %s: what was done to the recorder is seen at the trie", name)
			}
		}
	}
}

// P11.1: all that the trie has goes, or it has other values, ahead of the recorder's first call.
func TestP111AnotherTrieBehindNew(t *testing.T) {
	changes := map[string]func(x *trie.Trie, key []byte){
		"Delete of all": func(x *trie.Trie, key []byte) { x.Delete(key) },
		"Put of all":    func(x *trie.Trie, key []byte) { x.Put(key, []byte("other")) },
		"longer keys":   func(x *trie.Trie, key []byte) { x.Delete(key); x.Put(append(key[:len(key)/2], 'q'), []byte(most)) },
	}
	for what, change := range changes {
		for name, p := range someTries() {
			x := trieOf(p)
			w := watch(t, x)
			for key := range x.All() {
				change(x, key)
			}
			w.same(what)
			for _, key := range edgeKeys() {
				value, has := p[key]
				if got := w.do(get(key)); got != (answer{value, has, api.OK}) {
					t.Fatalf("P11.1: %s: %s is seen: %v", name, what, got)
				}
			}
			w.enough()
			w.noMore()
		}
	}
}

// P11.1: recorders of one trie, made at once and one behind the other, each of the trie as it stood then.
func TestP111ManyOfOneTrie(t *testing.T) {
	for seed := range uint32(12) {
		x := grown(seed, edgeKeys(), 25)
		all := []*watched{watch(t, x), watch(t, x)}
		for i, c := range someCalls(seed+50, edgeKeys(), 60) {
			if i%12 == 0 {
				c.of(x)
				all = append(all, watch(t, x))
			}
			all[(i*7+int(seed))%len(all)].do(c)
			for _, w := range all {
				w.same(c)
			}
		}
		for _, w := range all {
			w.enough()
		}
	}
}

// A recorder may be made of the clone of a trie; the clone's notes are its own.
func TestP111OfAClone(t *testing.T) {
	for _, p := range someTries() {
		x := trieOf(p)
		one, two := watch(t, x), watch(t, x.Clone())
		for _, key := range edgeKeys() {
			one.do(del(key))
			two.same(key)
		}
		two.notes("nothing was asked")
		for _, key := range edgeKeys() {
			two.do(get(key))
			one.same(key)
		}
		one.enough()
		two.enough()
	}
}

// R6: asking for Root and Notes changes nothing; the same calls note the same again.
func TestR6SameCallsSameNotes(t *testing.T) {
	for seed := range uint32(20) {
		x := grown(seed, wordKeys(), 30)
		r, q := recorder.New(x), recorder.New(x)
		for _, c := range someCalls(seed+5, wordKeys(), 20) {
			one, two := c.of(r), c.of(q)
			for range 3 {
				r.Root()
				r.Notes()
			}
			if one != two {
				t.Fatalf("R6: %v = %v and %v", c, one, two)
			}
		}
		if r.Root() != q.Root() || !slices.Equal(texts(r.Notes()), texts(q.Notes())) {
			t.Fatal("R6: the same calls have come to unlike ends")
		}
	}
}
