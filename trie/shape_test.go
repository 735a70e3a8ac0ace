package trie_test

import (
	"strings"
	"testing"

	"pergola/api"
	"pergola/node"
)

// puts are steps of keys that have the values 0, 1, 2 ..
func puts(keys ...string) []step {
	var l []step
	for i, key := range keys {
		l = append(l, step{key, string(rune('0' + i))})
	}
	return l
}

// Shapes worked out by hand: behind some Puts, and behind one Delete more.
func TestP72Shapes(t *testing.T) {
	for _, k := range []struct {
		keys         []string
		want         string
		gone, behind string
	}{
		// To nothing, and to one key.
		{[]string{"a"}, "L61=0", "a", "nothing"},
		{[]string{""}, "L=0", "", "nothing"},
		{[]string{"a", "b"}, "E6(B{1:L=0 2:L=1})", "a", "L62=1"},
		{[]string{"a", "q"}, "B{6:L1=0 7:L1=1}", "q", "L61=0"},
		{[]string{"a", "\x16"}, "B{1:L6=1 6:L1=0}", "a", "L16=1"},
		{[]string{"", "a"}, "B{6:L1=1}0", "", "L61=1"},
		{[]string{"", "a"}, "B{6:L1=1}0", "a", "L=0"},
		{[]string{"a", "ab"}, "E61(B{6:L2=1}0)", "ab", "L61=0"},
		{[]string{"a", "ab"}, "E61(B{6:L2=1}0)", "a", "L6162=1"},
		// To one kid and a value: it stays a branch, whatever the kid is.
		{[]string{"a", "ab", "aq"}, "E61(B{6:L2=1 7:L1=2}0)", "aq", "E61(B{6:L2=1}0)"},
		{[]string{"a", "abc", "abd", "aq"}, "E61(#B{6:E26(B{3:L=1 4:L=2}) 7:L1=3}0)", "aq", "E61(#B{6:E26(B{3:L=1 4:L=2})}0)"},
		{[]string{"a", "ab", "ac", "aq"}, "E61(#B{6:B{2:L=1 3:L=2} 7:L1=3}0)", "aq", "E61(#B{6:B{2:L=1 3:L=2}}0)"},
		{[]string{"", "a", "q"}, "B{6:L1=1 7:L1=2}0", "q", "B{6:L1=1}0"},
		// To two kids and no value.
		{[]string{"a", "ab", "aq"}, "E61(B{6:L2=1 7:L1=2}0)", "a", "E61(B{6:L2=1 7:L1=2})"},
		{[]string{"a", "b", "c"}, "E6(B{1:L=0 2:L=1 3:L=2})", "b", "E6(B{1:L=0 3:L=2})"},
		// To one kid and no value: a leaf, an extension, a branch, below an extension and topmost.
		{[]string{"ab", "aq"}, "E61(B{6:L2=0 7:L1=1})", "aq", "L6162=0"},
		{[]string{"abc", "abd", "aq"}, "E61(#B{6:E26(B{3:L=0 4:L=1}) 7:L1=2})", "aq", "E61626(B{3:L=0 4:L=1})"},
		{[]string{"ab", "ac", "aq"}, "E61(#B{6:B{2:L=0 3:L=1} 7:L1=2})", "aq", "E616(B{2:L=0 3:L=1})"},
		{[]string{"\x12", "\x20"}, "B{1:L2=0 2:L0=1}", "\x20", "L12=0"},
		{[]string{"\x12\x34", "\x12\x35", "\x20"}, "B{1:E23(B{4:L=0 5:L=1}) 2:L0=2}", "\x20", "E123(B{4:L=0 5:L=1})"},
		{[]string{"\x12", "\x13", "\x20"}, "B{1:B{2:L=0 3:L=1} 2:L0=2}", "\x20", "E1(B{2:L=0 3:L=1})"},
		{[]string{"", "\x12"}, "B{1:L2=1}0", "", "L12=1"},
		{[]string{"", "\x12\x34", "\x12\x35"}, "B{1:E23(B{4:L=1 5:L=2})}0", "", "E123(B{4:L=1 5:L=2})"},
		{[]string{"", "\x12", "\x13"}, "B{1:B{2:L=1 3:L=2}}0", "", "E1(B{2:L=1 3:L=2})"},
		{[]string{"\x12", "\x12\x34", "\x12\x35"}, "E12(#B{3:B{4:L=1 5:L=2}}0)", "\x12", "E123(B{4:L=1 5:L=2})"},
		// A branch below a branch goes; the upper one stays, or goes as well.
		{[]string{"\x12", "\x13", "\x20"}, "B{1:B{2:L=0 3:L=1} 2:L0=2}", "\x12", "B{1:L3=1 2:L0=2}"},
		{[]string{"\x12", "\x12\x34", "\x20"}, "B{1:E2(B{3:L4=1}0) 2:L0=2}", "\x12\x34", "B{1:L2=0 2:L0=2}"},
		{[]string{"\x12", "\x12\x34", "\x20"}, "B{1:E2(B{3:L4=1}0) 2:L0=2}", "\x12", "B{1:L234=1 2:L0=2}"},
		{[]string{"", "a", "ab"}, "B{6:E1(B{6:L2=2}1)}0", "a", "B{6:L162=2}0"},
		// A key that is not there: past a leaf, within a path, beside a kid, a branch without a value.
		{[]string{"a"}, "L61=0", "ab", "L61=0"},
		{[]string{"ab"}, "L6162=0", "a", "L6162=0"},
		{[]string{"abc", "abd"}, "E61626(B{3:L=0 4:L=1})", "a", "E61626(B{3:L=0 4:L=1})"},
		{[]string{"abc", "abd"}, "E61626(B{3:L=0 4:L=1})", "abe", "E61626(B{3:L=0 4:L=1})"},
		{[]string{"abc", "abd"}, "E61626(B{3:L=0 4:L=1})", "q", "E61626(B{3:L=0 4:L=1})"},
		{[]string{"a", "q"}, "B{6:L1=0 7:L1=1}", "", "B{6:L1=0 7:L1=1}"},
	} {
		x, p := made(t, puts(k.keys...)...)
		if got := shape(x); got != k.want {
			t.Errorf("P7.2: %q: %s, not %s", k.keys, got, k.want)
		}
		alike(t, x, p, edgeKeys()...)
		c, cp := x.Clone(), copyOf(p)
		do(t, x, p, step{k.gone, ""})
		if got := shape(x); got != k.behind {
			t.Errorf("P7.2: %q behind Delete(%q): %s, not %s", k.keys, k.gone, got, k.behind)
		}
		alike(t, x, p, edgeKeys()...)
		alike(t, c, cp, edgeKeys()...)
	}
}

// A Put into a path: ahead of it, at each place within it, at its end and behind that.
func TestP72PutWithinAPath(t *testing.T) {
	leaf, ext := []string{full}, []string{full, full[:31] + "{"}
	for _, keys := range [][]string{leaf, ext} {
		for i := range 33 {
			for _, more := range []string{"", "\x00", "\x6a", "\x7b", "\x6bk", "\xff"} {
				if len(more)+i > 32 {
					continue
				}
				x, p := made(t, puts(keys...)...)
				do(t, x, p, step{full[:i] + more, "\x07"})
				alike(t, x, p, full[:i], full)
				do(t, x, p, step{full[:i] + more, ""})
				alike(t, x, p, full[:i], full)
			}
		}
	}
}

// Nodes of 31, 32 and 33 bytes: from 32 on they are named by a digest; the topmost one is, however short it is.
func TestP72NodesAtTheEdgeOfADigest(t *testing.T) {
	for _, k := range []struct {
		name  string
		keys  []string // the first one has the value that makes a node of 31 bytes, and more
		value int
		kind  int
		top   bool
	}{
		{"a leaf below", []string{"\x11", "\x12"}, 28, api.Leaf, false},
		{"a leaf on top", []string{""}, 28, api.Leaf, true},
		{"a leaf with a path on top", []string{"abc"}, 24, api.Leaf, true},
		{"a branch below a branch", []string{"\x13", "\x12", "\x20"}, 9, api.Branch, false},
		{"a branch below an extension", []string{"\x10", "\x10\x30"}, 11, api.Branch, false},
		{"a branch on top", []string{"", "\x30"}, 11, api.Branch, true},
		{"an extension below", []string{"\x10", "\x10\x30", "\x20"}, 9, api.Ext, false},
		{"an extension on top", []string{"\x10", "\x10\x30"}, 7, api.Ext, true},
	} {
		for more := range 3 {
			size := 31 + more
			l := []step{{k.keys[0], strings.Repeat("x", k.value+more)}}
			for _, key := range k.keys[1:] {
				l = append(l, step{key, "\x05"})
			}
			x, p := made(t, l...)
			alike(t, x, p)
			found := 0
			for _, b := range x.Nodes() {
				if n, _ := node.Decode(b); n.Kind == k.kind && len(b) == size {
					found++
				}
			}
			want := 0
			if k.top || size >= 32 {
				want = 1
			}
			if found != want {
				t.Errorf("P7.3: %s, of %d bytes: told %d times, not %d", k.name, size, found, want)
			}
		}
	}
}

// Alike nodes in several places are told once.
func TestP73AlikeNodesAreToldOnce(t *testing.T) {
	x, p := made(t, step{"aa", long}, step{"ab", long}, step{"ba", long}, step{"bb", long}, step{"q", long})
	alike(t, x, p)
	if got, want := shape(x), "B{6:#B{1:#E6(#B{1:#L=v 2:#L=v}) 2:#E6(#B{1:#L=v 2:#L=v})} 7:#L1=v}"; strings.ReplaceAll(got, long, "v") != want {
		t.Errorf("P7.2: %s", got)
	}
	if l := x.Nodes(); len(l) != 6 {
		t.Errorf("P7.3: %d nodes, not 6", len(l))
	}
}

// From each set of some keys on, each call that there is: so all ways from one form to another one.
func TestP72FromEachFormOn(t *testing.T) {
	keys := smallKeys()
	for _, values := range [][2]string{{"\x01", "\x02"}, {long, other}, {"\x01", long}} {
		for set := range 1 << len(keys) {
			p := plain{}
			for i, key := range keys {
				if set>>i&1 != 0 {
					p[key] = values[i%2]
				}
			}
			x := trieOf(p)
			alike(t, x, p, keys...)
			for i, key := range keys {
				for _, value := range []string{"", values[i%2], "\x09", most} {
					c, cp := x.Clone(), copyOf(p)
					do(t, c, cp, step{key, value})
					alike(t, c, cp, keys...)
				}
			}
			alike(t, x, p, keys...)
		}
	}
}
