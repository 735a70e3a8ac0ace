package trie_test

import (
	"iter"
	"slices"
	"strings"
	"testing"

	"pergola/trie"
)

// changes are what may be done to a trie while All goes on, at a key.
func changes() map[string]func(x *trie.Trie, key []byte) {
	return map[string]func(x *trie.Trie, key []byte){
		"Put of the key":        func(x *trie.Trie, key []byte) { x.Put(key, []byte("new")) },
		"Delete of the key":     func(x *trie.Trie, key []byte) { x.Delete(key) },
		"Put ahead of all":      func(x *trie.Trie, key []byte) { x.Put(nil, []byte(most)) },
		"Put behind all":        func(x *trie.Trie, key []byte) { x.Put([]byte(strings.Repeat("\xff", 32)), []byte(most)) },
		"Put behind the key":    func(x *trie.Trie, key []byte) { x.Put(append(key, 0), []byte("new")) },
		"Put of another value":  func(x *trie.Trie, key []byte) { putAll(x, "new") },
		"Delete of all":         func(x *trie.Trie, key []byte) { deleteAll(x) },
		"Delete of all and Put": func(x *trie.Trie, key []byte) { deleteAll(x); x.Put(append(key, 1), []byte("new")) },
	}
}

func deleteAll(x *trie.Trie) {
	for key := range x.All() {
		x.Delete(key)
	}
}

func putAll(x *trie.Trie, value string) {
	for key := range x.All() {
		x.Put(key, []byte(value))
	}
}

func TestP74AllTellsWhatThereWas(t *testing.T) {
	for name, p := range someTries() {
		for what, change := range changes() {
			for at := range len(p) {
				x := trieOf(p)
				var l []string
				for key, value := range x.All() {
					l = append(l, string(key), string(value))
					if len(l) == 2*at+2 {
						change(x, key)
					}
				}
				if !slices.Equal(l, toldOf(p)) {
					t.Fatalf("P7.4: %s: %s at %d: All told %q", name, what, at, l)
				}
				y := trieOf(p)
				change(y, []byte(p.keys()[at]))
				same(t, "P7.4: behind a change while All went on", x, y)
			}
		}
	}
}

// What there is when a range begins is told, not what there was when All was called.
func TestP74ARangeBeginsLater(t *testing.T) {
	x, p := trie.New(), plain{}
	all := x.All()
	for _, s := range []step{{"b", "\x01"}, {"a", long}, {"b", ""}, {"", "\x02"}, {"a", "\x03"}, {"a", ""}, {"", ""}} {
		do(t, x, p, s)
		for range 2 {
			var l []string
			for key, value := range all {
				l = append(l, string(key), string(value))
			}
			if !slices.Equal(l, toldOf(p)) {
				t.Fatalf("P7.4: behind %v a range tells %q", s, l)
			}
		}
	}
}

func TestP74AllIsLeftEarly(t *testing.T) {
	for name, p := range someTries() {
		x := trieOf(p)
		all := x.All()
		for stop := 1; stop <= len(p); stop++ {
			var l []string
			for key, value := range all {
				l = append(l, string(key), string(value))
				if len(l) == 2*stop {
					break
				}
			}
			if !slices.Equal(l, toldOf(p)[:2*stop]) {
				t.Fatalf("P7.4: %s: left at %d: %q", name, stop, l)
			}
		}
		alike(t, x, p)
		// A plain call: nothing is told any more once it was refused.
		for stop := 1; stop <= len(p); stop++ {
			calls := 0
			all(func(key, value []byte) bool {
				calls++
				return calls < stop
			})
			if calls != stop {
				t.Fatalf("P7.4: %s: refused at %d, and told %d times", name, stop, calls)
			}
		}
	}
}

func TestP74AllWithinItself(t *testing.T) {
	for name, p := range someTries() {
		x := trieOf(p)
		all := x.All()
		var outer []string
		for key, value := range all {
			outer = append(outer, string(key), string(value))
			var inner []string
			for k, v := range all {
				inner = append(inner, string(k), string(v))
				for range all {
					break
				}
			}
			if !slices.Equal(inner, toldOf(p)) {
				t.Fatalf("P7.4: %s: within itself All told %q", name, inner)
			}
		}
		if !slices.Equal(outer, toldOf(p)) {
			t.Fatalf("P7.4: %s: around itself All told %q", name, outer)
		}
	}
}

// Ranges that began at unlike times, each of which tells what there was then.
func TestP74RangesOfUnlikeTimes(t *testing.T) {
	x, p := made(t, step{"a", "\x01"}, step{"ab", long}, step{"b", "\x02"}, step{"", "\x03"})
	all := x.All()
	want := toldOf(p)
	var outer []string
	for key, value := range all {
		outer = append(outer, string(key), string(value))
		do(t, x, p, step{string(key), ""})
		do(t, x, p, step{string(key) + "\x7f", other})
		var inner []string
		for k, v := range all {
			do(t, x, p, step{"q", string(k) + "."})
			inner = append(inner, string(k), string(v))
		}
		do(t, x, p, step{"q", ""})
		if !slices.Equal(inner, toldOf(p)) {
			t.Fatalf("P7.4: the inner range told %q", inner)
		}
	}
	if !slices.Equal(outer, want) {
		t.Fatalf("P7.4: the outer range told %q", outer)
	}
	alike(t, x, p)
}

// Two ranges side by side, one step each in turn, with changes in between.
func TestP74RangesInTurn(t *testing.T) {
	x, p := made(t, step{"a", "\x01"}, step{"ab", long}, step{"b", "\x02"})
	all := x.All()
	first, stopFirst := iter.Pull2(all)
	defer stopFirst()
	want := toldOf(p)
	var one, two []string
	key, value, _ := first()
	one = append(one, string(key), string(value))
	do(t, x, p, step{"a", ""})
	do(t, x, p, step{"c", "\x04"})
	later := toldOf(p)
	second, stopSecond := iter.Pull2(all)
	defer stopSecond()
	for {
		key, value, ok := second()
		if !ok {
			break
		}
		two = append(two, string(key), string(value))
		deleteAll(x)
		if key, value, ok := first(); ok {
			one = append(one, string(key), string(value))
		}
	}
	if !slices.Equal(one, want) || !slices.Equal(two, later) {
		t.Errorf("P7.4: two ranges told %q and %q, not %q and %q", one, two, want, later)
	}
}

func TestP74LenWhileAllGoesOn(t *testing.T) {
	x, p := made(t, step{"a", "\x01"}, step{"ab", long}, step{"b", "\x02"}, step{"", "\x03"})
	left := len(p)
	for key := range x.All() {
		if x.Len() != left {
			t.Fatalf("P7.4: Len = %d, not %d", x.Len(), left)
		}
		x.Delete(key)
		left--
	}
	if x.Len() != 0 {
		t.Error("P7.4: Len behind Delete of all:", x.Len())
	}
}

// An All of a trie does not go over to its clone.
func TestR7AllOfATrieAndOfItsClone(t *testing.T) {
	x, p := made(t, step{"a", "\x01"}, step{"ab", long})
	all := x.All()
	c, cp := x.Clone(), copyOf(p)
	ofClone := c.All()
	do(t, x, p, step{"a", ""})
	do(t, c, cp, step{"b", "\x02"})
	for _, k := range []struct {
		all  iter.Seq2[[]byte, []byte]
		want []string
	}{{all, toldOf(p)}, {ofClone, toldOf(cp)}} {
		var l []string
		for key, value := range k.all {
			l = append(l, string(key), string(value))
		}
		if !slices.Equal(l, k.want) {
			t.Errorf("R7: All tells %q, not %q", l, k.want)
		}
	}
}
