package partial_test

import (
	"strings"
	"testing"

	"pergola/api"
	"pergola/digest"
	"pergola/partial"
)

// rest of so many nibbles, all of them 6.
func six(n int) string { return strings.Repeat("6", n) }

// led has nodes that lead to another one, named by its digest: so many nibbles do.
type led struct {
	name  string
	lead  int
	nodes func(end api.Ref) []api.Node // the topmost one first
}

// leads are the ways of having so many nibbles lead somewhere, the last one being a branch's.
func leads(lead int) []led {
	last := func(end api.Ref) api.Node { return branch("\x05", kids{"6": end}) }
	return []led{
		{"an extension, a branch", lead, func(end api.Ref) []api.Node {
			return []api.Node{ext(six(lead-1), byDigest(last(end))), last(end)}
		}},
		{"a branch, an extension, a branch", lead, func(end api.Ref) []api.Node {
			upper := ext(six(lead-2), byDigest(last(end)))
			return []api.Node{branch("\x05", kids{"6": byDigest(upper)}), upper, last(end)}
		}},
		{"an extension, a branch, a branch", lead, func(end api.Ref) []api.Node {
			upper := branch("", kids{"6": byDigest(last(end)), "7": away()})
			return []api.Node{ext(six(lead-2), byDigest(upper)), upper, last(end)}
		}},
	}
}

// sixes is the key of so many nibbles 6; of MaxKey bytes, if these are too many.
func sixes(n int) string { return strings.Repeat("f", min((n+1)/2, 32)) }

// A node fits while its path, from the topmost node on, has at most 64 nibbles, and that of each that stands in it.
func TestFit(t *testing.T) {
	for _, k := range []struct {
		name string
		most int // the greatest lead with which it fits
		n    api.Node
	}{
		{"a leaf of no nibble", 64, leaf("", long)},
		{"a leaf", 54, leaf(six(10), long)},
		{"a leaf of an odd path", 53, leaf(six(11), long)},
		{"a leaf of 61 nibbles", 3, leaf(six(61), long)},
		{"an extension", 54, ext(six(10), away())},
		{"an extension of one nibble", 63, ext("7", away())},
		{"a branch of stubs", 64, branch("\x05", kids{"7": away()})},
		{"a branch of stubs alone", 64, branch("", kids{"7": away(), "8": away()})},
		{"a branch with a leaf of no nibble inline", 63, branch(long, kids{"6": named(leaf("", "\x05"))})},
		{"a branch with another leaf inline", 63, branch(long, kids{"7": named(leaf("", "\x05"))})},
		{"a branch with a longer leaf inline", 53, branch(long, kids{"0": named(leaf("", "\x05")), "7": named(leaf(six(10), "\x05")), "f": away()})},
		{"a branch with a long leaf in its last kid", 53, branch("", kids{"0": away(), "f": named(leaf(six(10), "\x05"))})},
		{"an extension with a branch inline", 53, ext(six(10), named(twig("\x05", "3")))},
		{"an extension with a branch and a leaf inline", 50, ext(six(10), named(branch("\x05", kids{"6": named(leaf("123", "\x05"))})))},
		{"a branch with an extension, a branch and a leaf inline", 50, branch("", kids{"1": away(), "2": named(ext(six(11), named(branch("\x05", kids{"6": named(leaf("1", "\x05"))}))))})},
	} {
		for _, lead := range []int{k.most - 1, k.most, k.most + 1, k.most + 2} {
			if lead < 3 || lead > 64 {
				continue
			}
			for _, l := range leads(lead) {
				fitsAt(t, k.name+" below "+l.name, l, k.n, lead <= k.most)
			}
		}
	}
}

// fitsAt asks whether a node fits where the others lead.
func fitsAt(t *testing.T, name string, l led, n api.Node, fits bool) {
	t.Helper()
	above := l.nodes(byDigest(n))
	nodes := texted(append(above, n)...)
	for _, c := range []call{get(sixes(l.lead)), put(sixes(l.lead), long), del(sixes(l.lead))} {
		b := begin(t, rootOf(above[0]), nodes)
		if c.what == 'd' && b.clone().do(get(c.key)).is {
			// It may want another kid.
			continue
		}
		if got := b.do(c); (got.e == api.OK) != fits {
			t.Fatalf("%s, with %d nibbles ahead: %v = %v", name, l.lead, c, got)
		}
		if fits {
			b.uses(nodes...)
		} else {
			b.uses(texted(above...)...)
			b.stands(above[0])
		}
	}
}

// The topmost node: what stands inline in it may be too deep, though its own path is not.
func TestFitAtTheTop(t *testing.T) {
	deep := ext(six(64), named(twig("\x05", "3")))
	whole := ext(six(63), named(twig("\x05", "3")))
	stubs := ext(six(64), byDigest(branch("\x05", kids{"6": away()})))
	for _, c := range []call{get(""), get(full), get(sixes(64)), put(full, long), del("")} {
		b := begin(t, rootOf(deep), texted(deep))
		b.refused(c)
		b.uses()
		b = begin(t, rootOf(whole), texted(whole))
		if b.do(c).e != api.OK {
			t.Errorf("%v is refused", c)
		}
		b.uses(written(whole))
	}
	b := begin(t, rootOf(stubs), texted(stubs, branch("\x05", kids{"6": away()})))
	b.says(get(sixes(64)), answer{"\x05", true, api.OK})
	for _, key := range []string{full, strings.Repeat("f", 32)} {
		b = begin(t, rootOf(leaf(digitsOf(key), long)), texted(leaf(digitsOf(key), long)))
		b.says(get(key), answer{long, true, api.OK})
	}
}

// One node may stand in two places, of which it fits one.
func TestFitInOnePlaceOfTwo(t *testing.T) {
	n := leaf(six(10), long)
	below := branch("\x05", kids{"6": byDigest(n)})
	top := branch("", kids{"6": byDigest(ext(six(60), byDigest(below))), "7": byDigest(n)})
	nodes := texted(top, ext(six(60), byDigest(below)), below, n)
	high := "\x76\x66\x66\x66\x66"
	b := begin(t, rootOf(top), nodes)
	b.refused(get(sixes(64)))
	b.uses(nodes[:3]...)
	b.says(get(high+"f"), answer{})
	b.uses(nodes...)
	b.refused(get(sixes(64)))
	b.refused(put(sixes(64), long))
	b.uses(nodes...)
	b = begin(t, rootOf(top), nodes)
	b.says(get(high+"f"), answer{})
	b.uses(nodes[0], nodes[3])
	b.refused(del(sixes(64)))
	b.uses(nodes...)
}

// The kid that a Delete wants must fit, too: below a branch that 64 nibbles lead to none does.
func TestFitOfTheLastKid(t *testing.T) {
	for _, k := range []struct {
		lead int
		kid  api.Node
		fits bool
	}{
		{64, leaf("", long), false},
		{64, branch("\x05", kids{"6": away()}), false},
		{62, leaf("", long), true},
		{62, leaf("1", long), true},
		{62, leaf("12", long), false},
		{62, ext("1", away()), true},
		{62, ext("12", away()), false},
		{62, branch("\x05", kids{"6": named(leaf("", "\x05"))}), true},
		{62, branch("\x05", kids{"6": named(leaf("1", "\x05"))}), false},
	} {
		end := branch("\x07", kids{"3": byDigest(k.kid)})
		top := ext(six(k.lead), byDigest(end))
		b := begin(t, rootOf(top), texted(top, end, k.kid))
		if got := b.do(del(sixes(k.lead))); got.is != k.fits || (got.e == api.OK) != k.fits {
			t.Fatalf("P10.4: with %d nibbles ahead of %x: Delete = %v", k.lead, written(end), got)
		}
		if !k.fits {
			b.stands(top)
			b.uses(written(top), written(end))
			b.says(get(sixes(k.lead)), answer{"\x07", true, api.OK})
		}
	}
}

// Where a Delete or a Put has moved a stub as many nibbles lead to it as before.
func TestFitWhereAStubHasMoved(t *testing.T) {
	for _, most := range []bool{true, false} {
		n := leaf(six(5), long)
		if !most {
			n = leaf(six(6), long)
		}
		below := branch("\x05", kids{"6": byDigest(n)})
		middle := branch("", kids{"6": byDigest(ext(six(40), byDigest(below))), "7": named(leaf("", "\x05"))})
		top := ext(six(17), byDigest(middle))
		nodes := texted(top, middle, ext(six(40), byDigest(below)), below, n)
		b := begin(t, rootOf(top), nodes)
		b.says(del(strings.Repeat("f", 8)+"\x67"), answer{is: true})
		b.stands(ext(six(58), byDigest(below)))
		if got := b.do(get(sixes(64))); (got.e == api.OK) != most {
			t.Fatalf("behind a Delete: %v", got)
		}
		b = begin(t, rootOf(top), nodes)
		b.says(put(strings.Repeat("f", 20)+"q", "\x05"), answer{})
		b.says(put("q", "\x05"), answer{})
		if got := b.do(get(sixes(64))); (got.e == api.OK) != most {
			t.Fatalf("behind Puts: %v", got)
		}
	}
}

// Below a stub that does not fit nothing can be done; beside it everything can.
func TestFitBesideIt(t *testing.T) {
	n := leaf(six(64), long)
	top := branch("", kids{"6": byDigest(n), "7": named(leaf("1", "\x05"))})
	p := partial.New(rootOf(top), texted(top, n))
	if v, is, e := p.Get([]byte("q")); string(v) != "\x05" || !is || e != api.OK {
		t.Errorf("Get(q) = %q, %v, %d", v, is, e)
	}
	b := begin(t, rootOf(top), texted(top, n))
	b.says(put("q", long), answer{})
	b.stands(branch("", kids{"6": byDigest(n), "7": named(leaf("1", long))}))
	b.refused(del("q"))
	b.refused(get("a"))
	b.says(put("", long), answer{})
	b.says(del("q"), answer{is: true})
	b.stands(branch(long, kids{"6": textBy(written(n))}))
	if b.p.Root() == digest.Of(written(top)) {
		t.Error("P10.3: the root has not changed")
	}
}
