package partial_test

import (
	"bytes"
	"slices"
	"testing"

	"pergola/api"
	"pergola/digest"
	"pergola/node"
	"pergola/partial"
	"pergola/trie"
)

// grove are nodes that hang on each other in any way, by digests and inline, as they come; some are told of nobody.
func grove(n uint32) [][]byte {
	var l [][]byte
	ref := func() api.Ref {
		n = next(n)
		if len(l) == 0 || n>>27 == 0 {
			return away()
		}
		b := l[len(l)-1-int(n>>8)%min(len(l), 12)]
		if len(b) < 32 && n>>30 > 0 {
			return api.Ref{Kind: api.RefInline, Inline: b}
		}
		return textBy(b)
	}
	values := []string{"\x01", "", "\x80", long, "x", ""}
	for len(l) < 40 {
		n = next(n)
		path := "616162600161"[n>>12%6:][:n>>20%5]
		value := values[n>>16%6]
		var made api.Node
		switch n >> 29 % 4 {
		case 0:
			made = leaf(path, value)
		case 1:
			made = ext(path, ref())
		case 2:
			made = branch(value, kids{"6": ref(), "1": ref()})
		default:
			made = branch(value, kids{"6": ref(), "0": ref()})
		}
		if b, e := node.Encode(made); e == api.OK {
			l = append(l, b)
		}
	}
	return l
}

func groveKeys() []string {
	return []string{"", "a", "aa", "ab", "aab", "b", "\x60", "\x16", "\x01\x66", "aabab", "\x66\x66", "\x61\x66\x12", "\x00", "\x06", "\x61\x60", "\x66", "\x06\x16"}
}

// Nodes that no trie has, some of them wanting: all calls answer as the chapter says, also those behind refused ones.
func TestAnyNodes(t *testing.T) {
	ends := map[answer]int{}
	for seed := range uint32(60) {
		nodes := grove(seed)
		for i := range 12 {
			top := nodes[len(nodes)-1-i]
			known := nodes
			if i%3 > 0 {
				known = slices.Concat(nodes[:i*2], nodes[i*2+1:])
			}
			b := begin(t, digest.Of(top), known)
			for _, c := range someCalls(seed*31+uint32(i), groveKeys(), 30) {
				got := b.do(c)
				got.value = string(c.what)
				ends[got]++
			}
			enough(t, digest.Of(top), known, seed+uint32(i))
		}
	}
	for _, k := range []answer{{"g", true, 0}, {"g", false, 0}, {"g", false, 2}, {"p", false, 0}, {"p", false, 2}, {"d", true, 0}, {"d", false, 0}, {"d", false, 2}} {
		if ends[k] < 100 {
			t.Errorf("few calls end so: %v: %v", k, ends)
		}
	}
}

// enough reads P10.8's second half: the nodes that Used tells are enough for all calls so far, whatever these answered.
func enough(t *testing.T, root api.Digest, known [][]byte, seed uint32) {
	t.Helper()
	calls := someCalls(seed, groveKeys(), 12)
	p := partial.New(root, known)
	for i, c := range calls {
		c.of(p)
		q := partial.New(root, p.Used())
		fresh := partial.New(root, known)
		for _, again := range calls[:i+1] {
			if got, want := again.of(q), again.of(fresh); got != want || q.Root() != fresh.Root() {
				t.Fatalf("P10.8: with what Used tells %v = %v, not %v", again, got, want)
			}
		}
		if !slices.Equal(texts(q.Used()), texts(p.Used())) {
			t.Fatalf("P10.8: with what Used tells Used = %x, not %x", q.Used(), p.Used())
		}
	}
}

func TestP108UsedIsEnoughOfTries(t *testing.T) {
	for seed := range uint32(60) {
		x := trie.New()
		for _, c := range someCalls(seed, wordKeys(), 40) {
			c.of(x)
		}
		p, calls := partialOf(x), someCalls(seed+500, wordKeys(), 12)
		root := p.Root()
		var said []answer
		var roots []api.Digest
		for _, c := range calls {
			said, roots = append(said, c.of(p)), append(roots, p.Root())
		}
		used := p.Used()
		q := partial.New(root, used)
		for i, c := range calls {
			if got := c.of(q); got != said[i] || q.Root() != roots[i] || got.e == api.ErrWitness {
				t.Fatalf("P10.8: %v = %v, not %v", c, got, said[i])
			}
		}
		// None of them is one too many: without it a call would be refused.
		for i := range used {
			less, wanting := partial.New(root, slices.Delete(slices.Clone(used), i, i+1)), false
			for _, c := range calls {
				wanting = wanting || c.of(less).e == api.ErrWitness
			}
			if !wanting {
				t.Fatalf("P10.6: %x is told, but was not looked for", used[i])
			}
		}
	}
}

// With more nodes behind the others all calls answer alike, up to the first one that answers ErrWitness.
func TestP108MoreNodesBehind(t *testing.T) {
	refusals := 0
	for seed := range uint32(60) {
		nodes := grove(seed)
		root := digest.Of(nodes[len(nodes)-1-int(seed)%5])
		for _, cut := range []int{0, 10, 20, 30, 36, 39, 40} {
			some, rest := nodes[:cut], nodes[cut:]
			if seed%2 == 1 {
				some, rest = nodes[40-cut:], nodes[:40-cut]
			}
			p := begin(t, root, some)
			q := begin(t, root, slices.Concat(some, rest))
			r := begin(t, root, slices.Concat(some, noNodes(), nodes, nodes))
			for _, c := range someCalls(seed+9, groveKeys(), 30) {
				want := p.do(c)
				if want.e == api.ErrWitness {
					refusals++
					break
				}
				if q.do(c) != want || r.do(c) != want || q.p.Root() != p.p.Root() || r.p.Root() != p.p.Root() {
					t.Fatalf("P10.8: with more nodes %v is not %v, or the root is another one", c, want)
				}
				q.uses(p.p.Used()...)
				r.uses(p.p.Used()...)
			}
		}
	}
	if refusals < 100 {
		t.Error("few calls are refused:", refusals)
	}
}

// P10.6: each once, rising; nothing that was told is taken back by what is done later.
func TestP106UsedGrows(t *testing.T) {
	for _, p := range someTries() {
		x := trieOf(p)
		y := partialOf(x)
		var before [][]byte
		for i, key := range slices.Concat(edgeKeys(), wrongKeys(), edgeKeys()) {
			switch i % 4 {
			case 0:
				y.Get([]byte(key))
			case 1:
				y.Put([]byte(key), []byte(long))
			case 2:
				y.Delete([]byte(key))
			default:
				y.Put([]byte(key), nil)
			}
			now := y.Used()
			for k, b := range now {
				if k > 0 && bytes.Compare(now[k-1], b) >= 0 {
					t.Fatalf("P10.6: Used does not rise: %x", now)
				}
				if !slices.ContainsFunc(x.Nodes(), func(n []byte) bool { return bytes.Equal(n, b) }) {
					t.Fatalf("P10.6: %x is told, but was not handed in", b)
				}
			}
			for _, b := range before {
				if !slices.ContainsFunc(now, func(n []byte) bool { return bytes.Equal(n, b) }) {
					t.Fatalf("P10.6: %x is not told any more", b)
				}
			}
			before = now
		}
	}
}

// Neither Root nor Used nor Clone looks for anything; nor does a call with a wrong key or value.
func TestP106WhatLooksForNothing(t *testing.T) {
	for _, p := range someTries() {
		x := trieOf(p)
		y := partialOf(x)
		y.Root()
		y.Clone().Root()
		for _, key := range wrongKeys() {
			y.Get([]byte(key))
			y.Put([]byte(key), []byte(long))
			y.Delete([]byte(key))
		}
		for _, value := range wrongValues() {
			y.Put(nil, []byte(value))
		}
		if used := y.Used(); len(used) != 0 {
			t.Fatalf("P10.6: nothing was looked for, but Used = %x", used)
		}
	}
}

// A node that was made by a Put is not told, though it is one of those of New.
func TestP106MadeIsNotFound(t *testing.T) {
	b := begin(t, node.EmptyRoot(), texted(leaf("61", long), leaf("1", long)))
	b.says(put("a", long), answer{})
	b.says(get("a"), answer{long, true, api.OK})
	b.says(put("q", long), answer{})
	b.says(get("a"), answer{long, true, api.OK})
	b.uses()
}
