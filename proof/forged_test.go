package proof_test

import (
	"fmt"
	"slices"
	"testing"

	"pergola/api"
	"pergola/digest"
	"pergola/nest"
	"pergola/node"
	"pergola/trie"
)

// someProofs goes over proofs of the tries of each form that have a key.
func someProofs(t *testing.T, yield func(x *trie.Trie, key string, l [][]byte)) {
	t.Helper()
	for _, p := range someTries() {
		if len(p) == 0 {
			continue
		}
		x := trieOf(p)
		for _, key := range append(p.keys(), "", "a", "ad", "q", full[:31]) {
			yield(x, key, proved(t, x, key))
		}
	}
}

// with is a proof in which the thing at a place is another one.
func with(l [][]byte, place int, b []byte) [][]byte {
	c := slices.Clone(l)
	c[place] = b
	return c
}

func TestP92NoThings(t *testing.T) {
	for _, key := range edgeKeys() {
		says(t, "P9.2: of the empty root", node.EmptyRoot(), key, nil, "", false, api.OK)
		says(t, "P9.2: of the empty root", digest.Of([]byte{0x80}), key, [][]byte{}, "", false, api.OK)
		refused(t, "P9.2: no things", api.Digest{}, key, nil)
		refused(t, "P9.2: no things", digest.Of(nil), key, nil)
		refused(t, "P9.2: no things", node.EmptyCode(), key, [][]byte{})
	}
	someProofs(t, func(x *trie.Trie, key string, l [][]byte) {
		refused(t, "P9.2: no things", x.Root(), key, nil)
		refused(t, "P9.2: no things", x.Root(), key, [][]byte{})
	})
}

func TestP92ThingsOfTheEmptyRoot(t *testing.T) {
	for _, key := range edgeKeys() {
		for _, b := range append(noNodes(), written(leaf(digitsOf(key), long))) {
			refused(t, "P9.2: things of the empty root", node.EmptyRoot(), key, [][]byte{b})
			refused(t, "P9.2: things of the empty root", node.EmptyRoot(), key, [][]byte{{0x80}, b})
			refused(t, "P9.2: things of the empty root", node.EmptyRoot(), key, [][]byte{b, {0x80}})
		}
	}
}

func TestP92OtherRoots(t *testing.T) {
	someProofs(t, func(x *trie.Trie, key string, l [][]byte) {
		for i := range 32 {
			for _, bits := range []byte{1, 0x80, 0xff} {
				root := x.Root()
				root[i] ^= bits
				refused(t, "P9.2: another root", root, key, l)
			}
		}
		for _, root := range []api.Digest{{}, node.EmptyRoot(), node.EmptyCode(), digest.Of(append(l[0], 0))} {
			refused(t, "P9.2: another root", root, key, l)
		}
		for _, b := range l[1:] {
			refused(t, "P9.2: the root of a further thing", digest.Of(b), key, l)
		}
	})
}

func TestP92ThingsTooFewOrTooMany(t *testing.T) {
	someProofs(t, func(x *trie.Trie, key string, l [][]byte) {
		root := x.Root()
		for i := range l {
			refused(t, "P9.2: a thing too few", root, key, slices.Concat(l[:i], l[i+1:]))
			refused(t, "P9.2: all from a thing on are wanting", root, key, l[:i])
			refused(t, "P9.2: a thing twice", root, key, slices.Concat(l[:i+1], l[i:]))
			refused(t, "P9.2: a thing again at the end", root, key, slices.Concat(l, l[i:i+1]))
		}
		refused(t, "P9.2: all of them twice", root, key, slices.Repeat(l, 2))
		more := slices.Concat([][]byte{nil, {}, {0x80}, []byte("away"), written(leaf("", long))}, x.Nodes())
		for _, b := range more {
			for i := range len(l) + 1 {
				refused(t, "P9.2: a thing too many", root, key, slices.Insert(slices.Clone(l), i, b))
			}
		}
	})
}

func TestP92ThingsInAnotherOrder(t *testing.T) {
	swapped := 0
	someProofs(t, func(x *trie.Trie, key string, l [][]byte) {
		for i := range l {
			for k := range i {
				c := slices.Clone(l)
				c[i], c[k] = c[k], c[i]
				refused(t, "P9.2: two things in the other order", x.Root(), key, c)
				swapped++
			}
		}
		if len(l) > 1 {
			c := slices.Clone(l)
			slices.Reverse(c)
			refused(t, "P9.2: from the end on", x.Root(), key, c)
		}
	})
	if swapped == 0 {
		t.Fatal("no proof of two things")
	}
}

func TestP92ThingsWithOtherBytes(t *testing.T) {
	someProofs(t, func(x *trie.Trie, key string, l [][]byte) {
		root := x.Root()
		for i, b := range l {
			for k := range b {
				for _, bits := range []byte{1, 0x80, 0xff} {
					c := slices.Clone(b)
					c[k] ^= bits
					refused(t, "P9.2: a byte changed", root, key, with(l, i, c))
				}
				refused(t, "P9.2: bytes cut", root, key, with(l, i, b[:k]))
				refused(t, "P9.2: bytes cut ahead", root, key, with(l, i, b[k+1:]))
				refused(t, "P9.2: a byte taken out", root, key, with(l, i, slices.Delete(slices.Clone(b), k, k+1)))
				refused(t, "P9.2: a byte added", root, key, with(l, i, slices.Insert(slices.Clone(b), k, 0x80)))
			}
			refused(t, "P9.2: a byte added", root, key, with(l, i, slices.Concat(b, []byte{0})))
			refused(t, "P9.2: a byte added", root, key, with(l, i, slices.Concat(b, []byte{0x80})))
		}
	})
}

// The digest is the one that is asked for, but it is no node's.
func TestP92NoNodes(t *testing.T) {
	for _, b := range noNodes() {
		if _, e := node.Decode(b); e == api.OK {
			t.Fatalf("%x is a node", b)
		}
		for _, key := range []string{"", "a", "q", full} {
			refused(t, "P9.2: no node", digest.Of(b), key, [][]byte{b})
		}
		under := written(branch("\x05", map[string]api.Ref{"6": byDigest(b)}))
		root := digest.Of(under)
		refused(t, "P9.2: no node below", root, "a", [][]byte{under, b})
		refused(t, "P9.2: no node below", root, "ab", [][]byte{under, b})
		says(t, "P9.2: no node beside the way", root, "", [][]byte{under}, "\x05", true, api.OK)
		says(t, "P9.2: no node beside the way", root, "q", [][]byte{under}, "", false, api.OK)
		refused(t, "P9.2: no node beside the way, but told", root, "q", [][]byte{under, b})
		long := written(ext("61", byDigest(b)))
		refused(t, "P9.2: no node below an extension", digest.Of(long), "a", [][]byte{long, b})
		says(t, "P9.2: no node beside the way", digest.Of(long), "b", [][]byte{long}, "", false, api.OK)
	}
}

// The child of an extension, by its digest.
func TestP92ChildrenOfExtensions(t *testing.T) {
	below := written(branch("\x07", map[string]api.Ref{"6": away()}))
	for name, child := range map[string][]byte{
		"a leaf of no path":   written(leaf("", long)),
		"a short leaf":        written(leaf("", "\x05")),
		"a leaf":              written(leaf("62", long)),
		"an extension":        written(ext("62", byDigest(below))),
		"an extension inline": written(ext("62", inline(written(branch("\x05", map[string]api.Ref{"3": inline(written(leaf("", "\x05")))}))))),
	} {
		top := written(ext("61", byDigest(child)))
		for _, key := range []string{"a", "ab", "abc"} {
			refused(t, "P9.2: below an extension "+name, digest.Of(top), key, [][]byte{top, child})
			refused(t, "P9.2: below an extension "+name, digest.Of(top), key, [][]byte{top, child, below})
			refused(t, "P9.2: the child is wanting", digest.Of(top), key, [][]byte{top})
		}
		// Where the way does not go there nobody asks what it is.
		for _, key := range []string{"", "b", "q", "\x06\x10"} {
			says(t, "P9.2: beside "+name, digest.Of(top), key, [][]byte{top}, "", false, api.OK)
			refused(t, "P9.2: beside "+name, digest.Of(top), key, [][]byte{top, child})
		}
		// Likewise where the extension is not the topmost node.
		above := written(branch("", map[string]api.Ref{"0": byDigest(top), "1": away()}))
		refused(t, "P9.2: below an extension "+name, digest.Of(above), "\x06\x10", [][]byte{above, top, child})
		says(t, "P9.2: beside "+name, digest.Of(above), "\x06\x20", [][]byte{above, top}, "", false, api.OK)
	}
}

func TestP92BranchesBelowExtensions(t *testing.T) {
	end := written(leaf("2", long))
	child := written(branch(other, map[string]api.Ref{"6": byDigest(end)}))
	top := written(ext("61", byDigest(child)))
	says(t, "P9.2: a branch", digest.Of(top), "a", [][]byte{top, child}, other, true, api.OK)
	// Below that branch there may be any node again.
	says(t, "P9.2: a leaf", digest.Of(top), "ab", [][]byte{top, child, end}, long, true, api.OK)
	says(t, "P9.2: a leaf", digest.Of(top), "ac", [][]byte{top, child, end}, "", false, api.OK)
	says(t, "P9.2: no such kid", digest.Of(top), "aq", [][]byte{top, child}, "", false, api.OK)
	refused(t, "P9.2: a leaf where nothing is left", digest.Of(top), "a", [][]byte{top, child, end})
	last := written(ext("2", byDigest(child)))
	middle := written(branch("", map[string]api.Ref{"6": byDigest(last), "7": away()}))
	first := written(ext("61", byDigest(middle)))
	says(t, "P9.2: extensions and branches in turn", digest.Of(first), "ab", [][]byte{first, middle, last, child}, other, true, api.OK)
	says(t, "P9.2: extensions and branches in turn", digest.Of(first), "abb", [][]byte{first, middle, last, child, end}, long, true, api.OK)
}

// The child of an extension, inline: it is no node then, on the way and beside it, and nor is the node in which it stands.
func TestP92InlineChildrenOfExtensions(t *testing.T) {
	short := written(branch("\x05", map[string]api.Ref{"3": inline(written(leaf("", "\x05")))}))
	for name, child := range map[string][]byte{
		"a leaf":       written(leaf("", "\x05")),
		"a long leaf":  written(leaf("123", "\x05")),
		"an extension": written(ext("1", inline(short))),
	} {
		bad := extOf(child)
		x, _ := nest.Decode(bad)
		l := slices.Repeat([]api.Item{nest.Text(nil)}, 17)
		l[6], l[16] = x, nest.Text([]byte{5})
		above, _ := nest.Encode(nest.List(l...))
		for _, key := range []string{"", "\x10", "\x11", "\x11\x23", "a", "q"} {
			refused(t, "P9.2: inline below an extension "+name, digest.Of(bad), key, [][]byte{bad})
			refused(t, "P9.2: inline below an extension "+name, digest.Of(above), key, [][]byte{above})
		}
	}
	good := extOf(short)
	says(t, "P9.2: a branch inline", digest.Of(good), "\x13", [][]byte{good}, "\x05", true, api.OK)
	says(t, "P9.2: a branch inline", digest.Of(good), "\x14", [][]byte{good}, "", false, api.OK)
}

// Nothing is asked of how long a further node is: a short one may be named by its digest, if the way goes there.
func TestP92ShortNodesByDigests(t *testing.T) {
	end := written(leaf("1", "\x05"))
	top := written(branch("", map[string]api.Ref{"6": byDigest(end), "7": away()}))
	says(t, "P9.2: a short leaf", digest.Of(top), "a", [][]byte{top, end}, "\x05", true, api.OK)
	says(t, "P9.2: a short leaf", digest.Of(top), "b", [][]byte{top, end}, "", false, api.OK)
	refused(t, "P9.2: it is wanting", digest.Of(top), "a", [][]byte{top})
}

// A branch with a value that has no kid of the last nibble: its value is not that key's.
func TestP92TheLastNibble(t *testing.T) {
	below := written(branch(long, map[string]api.Ref{"6": away()}))
	top := written(branch(other, map[string]api.Ref{"6": byDigest(below)}))
	says(t, "P9.2: no kid of the last nibble", digest.Of(top), "a", [][]byte{top, below}, "", false, api.OK)
	above := written(ext("6", byDigest(below)))
	says(t, "P9.2: no kid of the last nibble", digest.Of(above), "a", [][]byte{above, below}, "", false, api.OK)
}

// Of few texts, each row of at most three: but for the proof itself each is refused.
func TestP94EachRowOfThings(t *testing.T) {
	for _, p := range []plain{
		{"a": "\x01"}, {"a": long, "q": other}, {"ab": long, "ac": other}, {"": most, "a": long, "ab": other}, {"a": long, "ab": "1", "": "2"},
	} {
		x := trieOf(p)
		pool := append(x.Nodes(), nil, []byte{0x80}, written(leaf("61", other)))
		for _, b := range x.Nodes() {
			turned := slices.Clone(b)
			turned[len(turned)-1] ^= 1
			pool = append(pool, turned)
		}
		for _, key := range []string{"", "a", "b", "ab", "ad", "q"} {
			held := proved(t, x, key)
			eachRow(pool, 3, func(l [][]byte) { onlyTheProof(t, x, key, held, l) })
		}
	}
}

// eachRow tells each row of at most n things of a pool.
func eachRow(pool [][]byte, n int, yield func([][]byte)) {
	yield(nil)
	if n == 0 {
		return
	}
	for _, b := range pool {
		eachRow(pool, n-1, func(l [][]byte) { yield(append([][]byte{b}, l...)) })
	}
}

func onlyTheProof(t *testing.T, x *trie.Trie, key string, held, l [][]byte) {
	t.Helper()
	if !slices.Equal(texts(l), texts(held)) {
		refused(t, "P9.4", x.Root(), key, l)
		return
	}
	value, has, _ := x.Get([]byte(key))
	says(t, "P9.4", x.Root(), key, l, string(value), has, api.OK)
}

// The proofs of one key told of another one, and those of another trie.
func TestP94ProofsOfOthers(t *testing.T) {
	var tries []*trie.Trie
	var told [][][]byte
	for _, p := range someTries() {
		x := trieOf(p)
		tries = append(tries, x)
		for _, key := range edgeKeys() {
			told = append(told, proved(t, x, key))
		}
	}
	for _, x := range tries {
		for _, key := range edgeKeys() {
			held := proved(t, x, key)
			for _, l := range told {
				onlyTheProof(t, x, key, held, l)
			}
		}
	}
}

// grove are nodes that hang on each other in any way, by digests and inline, as they come.
func grove(n uint32) [][]byte {
	var l [][]byte
	named := func() api.Ref {
		n = next(n)
		if len(l) == 0 {
			return away()
		}
		b := l[int(n>>8)%len(l)]
		if len(b) < 32 && n>>30 > 0 {
			return inline(b)
		}
		return byDigest(b)
	}
	values := []string{"\x01", "", "\x80", long, "x", ""}
	for len(l) < 40 {
		n = next(n)
		path := "616162600161"[n>>12%6:][:n>>20%5]
		value := values[n>>16%6]
		var made api.Node
		switch n >> 29 % 4 {
		case 0:
			made = leaf(path, value)
		case 1:
			made = ext(path, named())
		default:
			made = branch(value, map[string]api.Ref{"6": named(), "1": named(), "2": named(), "0": named()})
		}
		if b, e := node.Encode(made); e == api.OK {
			l = append(l, b)
		}
	}
	return l
}

// Nodes that no trie has: Verify goes by them as the chapter says.
func TestP92AnyNodes(t *testing.T) {
	keys := []string{"", "a", "aa", "ab", "aab", "b", "\x60", "\x16", "\x01\x66", "aabab", "\x66\x66", "\x61\x66\x12"}
	taken := map[string]int{}
	for seed := range uint32(60) {
		nodes := grove(seed)
		byName := map[api.Digest][]byte{}
		for _, b := range nodes {
			byName[digest.Of(b)] = b
		}
		for _, top := range nodes {
			for _, key := range keys {
				l := wayBy(byName, top, key)
				asPlain(t, digest.Of(top), key, l)
				asPlain(t, digest.Of(top), key, append(l, top))
				asPlain(t, digest.Of(top), key, l[:len(l)-1])
				_, has, e := plainVerify(digest.Of(top), key, texts(l))
				taken[fmt.Sprint(has, e)]++
			}
		}
	}
	for _, k := range []string{"true 0", "false 0", "false 90"} {
		if taken[k] < 100 {
			t.Errorf("few ways end so: %s: %v", k, taken)
		}
	}
}

// wayBy are the named nodes on a key's way, whatever they are, as far as they are known.
func wayBy(byName map[api.Digest][]byte, top []byte, key string) [][]byte {
	var l [][]byte
	name, rest := byDigest(top), digitsOf(key)
	for name.Kind != api.RefNone {
		text := name.Inline
		if name.Kind == api.RefDigest {
			text = byName[name.Digest]
			l = append(l, text)
		}
		n, _ := node.Decode(text)
		name, rest = plainNext(n, rest)
	}
	return l
}
