package bulk_test

import (
	"fmt"
	"maps"
	"slices"
	"testing"

	"pergola/api"
	"pergola/bulk"
	"pergola/trie"
)

// pair is a key and its value, or what is no such thing.
type pair struct{ key, value string }

func (p pair) String() string { return fmt.Sprintf("(%q, %q)", p.key, p.value) }

// plain is the chapter worked out plainly: all that was taken, one behind the other.
type plain []pair

func (p *plain) add(key, value string) api.Errno {
	switch {
	case len(key) > 32:
		return 70
	case len(value) == 0 || len(value) > 256:
		return 71
	case len(*p) > 0 && (*p)[len(*p)-1].key >= key:
		return 80
	}
	*p = append(*p, pair{key, value})
	return 0
}

// root is that of a trie of all that was taken; from the last one to the first, so that the order is not what makes it.
func (p plain) root() api.Digest {
	x := trie.New()
	for _, q := range slices.Backward(p) {
		if e := x.Put([]byte(q.key), []byte(q.value)); e != api.OK {
			panic(fmt.Sprint(q, " is none of a trie's: ", e))
		}
	}
	return x.Root()
}

// alike holds all that a builder answers against the plain one.
func alike(t *testing.T, b *bulk.Builder, p plain) {
	t.Helper()
	if got, want := b.Root(), p.root(); got != want {
		t.Fatalf("P8.1: Root of %v = %x, not %x", p, got, want)
	}
	if got := b.Len(); got != len(p) {
		t.Fatalf("P8.1: Len of %v = %d", p, got)
	}
}

// add calls the builder and the plain one alike, and holds their answers against each other.
func add(t *testing.T, b *bulk.Builder, p *plain, key, value string) {
	t.Helper()
	got := b.Add([]byte(key), []byte(value))
	if want := p.add(key, value); got != want {
		t.Fatalf("P8.1: behind %v: Add%v = %d, not %d", *p, pair{key, value}, got, want)
	}
}

// made is a builder, and a plain one, that have been told all of these.
func made(t *testing.T, l ...pair) (*bulk.Builder, *plain) {
	t.Helper()
	b, p := bulk.New(), &plain{}
	for _, q := range l {
		add(t, b, p, q.key, q.value)
	}
	return b, p
}

func pairs(l []pair) []api.Pair {
	var some []api.Pair
	for _, q := range l {
		some = append(some, api.Pair{Key: []byte(q.key), Value: []byte(q.value)})
	}
	return some
}

// plainRoot reads P8.2.
func plainRoot(l []pair) (api.Digest, api.Errno) {
	var p plain
	for _, q := range l {
		if e := p.add(q.key, q.value); e != 0 {
			return api.Digest{}, e
		}
	}
	return p.root(), 0
}

// rooted holds Root of a list against what P8.2 says of it.
func rooted(t *testing.T, l ...pair) {
	t.Helper()
	d, e := bulk.Root(pairs(l))
	if wantD, wantE := plainRoot(l); d != wantD || e != wantE {
		t.Fatalf("P8.2: Root(%v) = %x, %d, not %x, %d", l, d, e, wantD, wantE)
	}
}

// inOrder are the pairs of a map, their keys rising.
func inOrder(m map[string]string) []pair {
	var l []pair
	for _, key := range slices.Sorted(maps.Keys(m)) {
		l = append(l, pair{key, m[key]})
	}
	return l
}
