package recorder_test

import (
	"testing"

	"pergola/api"
)

// shape is a trie, a call, and the nodes that it notes: made by hand, each of those that are named by a digest.
type shape struct {
	name  string
	p     pairs // by digits
	c     call  // its key in digits
	want  answer
	notes []api.Node
}

// byDigits is the call of a key that is told in digits.
func (c call) byDigits() call { return call{c.what, keyOf(c.key), c.value} }

func (k shape) ask(t *testing.T) {
	t.Helper()
	p := pairs{}
	for digits, value := range k.p {
		p[keyOf(digits)] = value
	}
	w := watch(t, trieOf(p))
	w.says(k.c.byDigits(), k.want)
	w.notes(k.name, k.notes...)
	w.enough()
	w.noMore()
	// What was made anew notes nothing any more.
	if k.c.what == 'g' {
		return
	}
	w.do(get(k.c.key).byDigits())
	w.do(put(k.c.key, other).byDigits())
	w.notes(k.name+", and again", k.notes...)
	w.enough()
}

func has(value string) answer { return answer{value, true, api.OK} }

// The ends of a key's way, in a trie that has each: an extension on top, a branch, long leaves and short ones.
func TestP112GetAtEachEnd(t *testing.T) {
	p := pairs{"6161": long, "6162": "\x05", "617171": other, "61717172": long, "61": "\x06"}
	aOne, qDeep := leaf("", long), leaf("2", long)
	six := branch("", kids{"1": aOne, "2": leaf("", "\x05")})
	deep := branch(other, kids{"7": qDeep})
	seven := ext("171", deep)
	low := branch("\x06", kids{"6": six, "7": seven})
	top := ext("61", low)
	for _, k := range []shape{
		{"a leaf by its digest", p, get("6161"), has(long), []api.Node{top, low, six, aOne}},
		{"a leaf inline", p, get("6162"), has("\x05"), []api.Node{top, low, six}},
		{"a branch's value", p, get("61"), has("\x06"), []api.Node{top, low}},
		{"a value of a branch below", p, get("617171"), has(other), []api.Node{top, low, seven, deep}},
		{"a leaf below that", p, get("61717172"), has(long), []api.Node{top, low, seven, deep, qDeep}},
		{"nothing: a branch without such a kid", p, get("6181"), answer{}, []api.Node{top, low}},
		{"nothing: a branch below", p, get("6163"), answer{}, []api.Node{top, low, six}},
		{"a leaf of another path", p, get("61717173"), answer{}, []api.Node{top, low, seven, deep, qDeep}},
		{"a leaf whose path goes on", p, get("6171717281"), answer{}, []api.Node{top, low, seven, deep, qDeep}},
		{"a leaf inline, behind it", p, get("616261"), answer{}, []api.Node{top, low, six}},
		{"an extension of another path", p, get("617172"), answer{}, []api.Node{top, low, seven}},
		{"an extension whose path goes on", p, get("6171"), answer{}, []api.Node{top, low, seven}},
		{"the topmost extension", p, get("71"), answer{}, []api.Node{top}},
		{"the topmost extension, of no nibble", p, get(""), answer{}, []api.Node{top}},
		{"a topmost branch without a value", pairs{"61": long, "71": long}, get(""), answer{}, []api.Node{branch("", kids{"6": leaf("1", long), "7": leaf("1", long)})}},
		{"nothing at all", pairs{}, get("61"), answer{}, nil},
		{"a Delete of no value, at a branch", p, del("6181"), answer{}, []api.Node{top, low}},
		{"a Delete of no value, at a leaf", p, del("61717173"), answer{}, []api.Node{top, low, seven, deep, qDeep}},
		{"a Delete of no value, at an extension", p, del("6171"), answer{}, []api.Node{top, low, seven}},
		{"a Delete of nothing at all", pairs{}, del("61"), answer{}, nil},
	} {
		k.ask(t)
	}
}

func TestP112PutAtEachEnd(t *testing.T) {
	six, kid := leaf("1", long), leaf("171", other)
	top := branch("\x06", kids{"6": six, "7": kid})
	p := pairs{"": "\x06", "61": long, "7171": other}
	lowOne, lowTwo := leaf("", long), leaf("", other)
	low := branch("", kids{"1": lowOne, "2": lowTwo})
	up := ext("616", low)
	e := pairs{"6161": long, "6162": other}
	for _, v := range []string{"\x07", long, most} {
		for _, k := range []shape{
			{"a leaf's new value", p, put("61", v), answer{}, []api.Node{top, six}},
			{"a branch's new value", p, put("", v), answer{}, []api.Node{top}},
			{"a branch's first value", pairs{"61": long, "71": "\x05"}, put("", v), answer{}, []api.Node{branch("", kids{"6": six, "7": leaf("1", "\x05")})}},
			{"a new leaf at a branch", p, put("81", v), answer{}, []api.Node{top}},
			{"a leaf is parted behind its path", p, put("6162", v), answer{}, []api.Node{top, six}},
			{"a leaf is parted at once", p, put("62", v), answer{}, []api.Node{top, six}},
			{"a leaf is parted within its path", p, put("7172", v), answer{}, []api.Node{top, kid}},
			{"a leaf is parted at the key's end", p, put("71", v), answer{}, []api.Node{top, kid}},
			{"an extension is parted at once", e, put("71", v), answer{}, []api.Node{up}},
			{"an extension is parted within its path", e, put("6171", v), answer{}, []api.Node{up}},
			{"an extension is parted at the key's end", e, put("61", v), answer{}, []api.Node{up}},
			{"an extension is parted at no nibble", e, put("", v), answer{}, []api.Node{up}},
			{"a new leaf below an extension", e, put("6163", v), answer{}, []api.Node{up, low}},
			{"a leaf below an extension", e, put("6162", v), answer{}, []api.Node{up, low, lowTwo}},
			{"a topmost leaf is parted", pairs{"61": "\x05"}, put("62", v), answer{}, []api.Node{leaf("61", "\x05")}},
			{"where there is nothing", pairs{}, put("61", v), answer{}, nil},
		} {
			k.ask(t)
		}
	}
}

// left is a kid that is left alone of a branch: its keys, behind the digits 7 and 1, and the nodes of it that are named by digests, the upper one first.
type left struct {
	name string
	p    pairs
	n    api.Node
	more []api.Node // that are looked for with it: it itself, if it has a name of its own
}

func lefts() []left {
	short, long1 := branch("", kids{"1": leaf("", "\x05"), "2": leaf("", "\x05")}), branch("", kids{"1": leaf("", long), "2": leaf("", "\x05")})
	shortLow, longLow := branch("\x05", kids{"6": leaf("1", "\x05")}), branch("\x05", kids{"6": leaf("1", long)})
	return []left{
		{"a leaf inline", pairs{"71": "\x05"}, leaf("1", "\x05"), nil},
		{"a leaf by its digest", pairs{"71": long}, leaf("1", long), []api.Node{leaf("1", long)}},
		{"an extension inline", pairs{"71": "\x05", "7161": "\x05"}, ext("1", shortLow), nil},
		{"an extension by its digest", pairs{"71": "\x05", "7161": long}, ext("1", longLow), []api.Node{ext("1", longLow)}},
		{"a branch inline", pairs{"71": "\x05", "72": "\x05"}, short, nil},
		{"a branch by its digest", pairs{"71": long, "72": "\x05"}, long1, []api.Node{long1}},
	}
}

// with are pairs and one more, all below some digits.
func (p pairs) with(digits, key, value string) pairs {
	some := pairs{digits + key: value}
	for k, v := range p {
		some[digits+k] = v
	}
	return some
}

// A Delete that leaves a branch with one kid alone wants that kid, if it is named by a digest.
func TestP112DeleteLeavesAKid(t *testing.T) {
	gone := leaf("1", long)
	yes := answer{is: true}
	for _, l := range lefts() {
		shortTop := branch("", kids{"6": leaf("1", "\x05"), "7": l.n})
		longTop := branch("", kids{"6": gone, "7": l.n})
		valueTop := branch(long, kids{"7": l.n})
		rich := branch(long, kids{"6": gone, "7": l.n})
		three := branch("", kids{"6": gone, "7": l.n, "8": gone})
		for _, k := range []shape{
			{"a leaf inline goes", l.p.with("", "61", "\x05"), del("61"), yes, append([]api.Node{shortTop}, l.more...)},
			{"a leaf goes", l.p.with("", "61", long), del("61"), yes, append([]api.Node{longTop, gone}, l.more...)},
			{"the value goes", l.p.with("", "", long), del(""), yes, append([]api.Node{valueTop}, l.more...)},
			{"a leaf goes below an extension", l.p.with("88", "61", long), del("8861"), yes, append([]api.Node{ext("88", longTop), longTop, gone}, l.more...)},
			{"the value goes below an extension", l.p.with("88", "", long), del("88"), yes, append([]api.Node{ext("88", valueTop), valueTop}, l.more...)},
			{"a value is left, too", l.p.with("", "61", long).with("", "", long), del("61"), yes, []api.Node{rich, gone}},
			{"two kids are left", l.p.with("", "61", long).with("", "81", long), del("61"), yes, []api.Node{three, gone}},
		} {
			if l.name == "a leaf by its digest" {
				// The leaf that goes is the same text as the one that is left.
				k.notes = once(k.notes)
			}
			k.name = l.name + " is left: " + k.name
			k.ask(t)
		}
	}
}

// once are nodes, of alike ones one.
func once(l []api.Node) []api.Node {
	var some []api.Node
	seen := map[string]bool{}
	for _, n := range l {
		if text := string(written(n)); !seen[text] {
			seen[text] = true
			some = append(some, n)
		}
	}
	return some
}

// The same below a branch, which stays one: no kid beside the way is wanted there.
func TestP112DeleteBelowABranch(t *testing.T) {
	gone := leaf("1", other)
	for _, l := range lefts() {
		low := branch("", kids{"6": gone, "7": l.n})
		under := ext("8", low)
		top := branch("", kids{"8": under, "9": leaf("1", long)})
		shape{l.name + " is left below a branch", l.p.with("88", "61", other).with("", "91", long), del("8861"), answer{is: true}, append([]api.Node{top, under, low, gone}, l.more...)}.ask(t)
	}
}

// A Delete that leaves a value alone, or nothing.
func TestP112DeleteLeavesAValue(t *testing.T) {
	gone, yes := leaf("1", long), answer{is: true}
	low := branch(other, kids{"6": gone})
	short := branch("\x05", kids{"6": leaf("1", "\x05")})
	for _, k := range []shape{
		{"of a leaf", pairs{"": other, "61": long}, del("61"), yes, []api.Node{low, gone}},
		{"of a leaf inline", pairs{"": "\x05", "61": "\x05"}, del("61"), yes, []api.Node{short}},
		{"below an extension", pairs{"88": other, "8861": long}, del("8861"), yes, []api.Node{ext("88", low), low, gone}},
		{"below an extension, all inline", pairs{"88": "\x05", "8861": "\x05"}, del("8861"), yes, []api.Node{ext("88", short)}},
		{"below a branch", pairs{"88": other, "8861": long, "91": long}, del("8861"), yes, []api.Node{branch("", kids{"8": ext("8", low), "9": leaf("1", long)}), ext("8", low), low, gone}},
		{"the topmost leaf goes", pairs{"61": "\x05"}, del("61"), yes, []api.Node{leaf("61", "\x05")}},
		{"the topmost leaf of no nibble goes", pairs{"": long}, del(""), yes, []api.Node{leaf("", long)}},
	} {
		k.ask(t)
	}
}

// What was put, deleted or made behind New is no node of New: it notes nothing, whatever is asked of it.
func TestP112WhatWasMadeNotesNothing(t *testing.T) {
	top := branch("", kids{"6": leaf("1", long), "7": leaf("1", other)})
	w := watch(t, trieOf(pairs{"a": long, "q": other}))
	w.says(put("\x81", long), answer{})
	w.says(get("\x81"), has(long))
	w.says(put("\x81\x81", other), answer{})
	w.says(put("\x81\x82", other), answer{})
	w.says(get("\x81\x82"), has(other))
	w.says(del("\x81"), answer{is: true})
	w.says(get("\x81"), answer{})
	w.says(del("\x81\x81"), answer{is: true})
	w.notes("below a new kid", top)
	// With its last key the new kid goes; two kids are left.
	w.says(del("\x81\x82"), answer{is: true})
	w.notes("the new kid goes", top)
	w.says(del("a"), answer{is: true})
	w.notes("one of two kids goes", top, leaf("1", long), leaf("1", other))
	w.says(put("a", long), answer{})
	w.says(del("a"), answer{is: true})
	w.says(put("a", most), answer{})
	w.says(get("a"), has(most))
	w.says(del("q"), answer{is: true})
	w.says(del("a"), answer{is: true})
	w.says(del("a"), answer{})
	w.notes("all went", top, leaf("1", long), leaf("1", other))
	w.enough()
}

// A kid that was made anew, and is left alone, was found already; one that was hung there behind New is none of New's.
func TestP112AKidThatWasMadeIsLeft(t *testing.T) {
	six := leaf("1", other)
	top := branch("", kids{"6": six, "7": leaf("1", long)})
	w := watch(t, trieOf(pairs{"a": other, "q": long}))
	w.says(put("\x81", long), answer{})
	w.says(del("a"), answer{is: true})
	w.notes("two are left", top, six)
	w.says(put("a", "\x01"), answer{})
	w.says(del("a"), answer{is: true})
	w.notes("again", top, six)
	w.says(del("q"), answer{is: true})
	w.notes("the one that was hung there is left", top, six, leaf("1", long))
	w.enough()
	w.noMore()
}

// P11.2: of alike nodes one; the second place is noted already.
func TestP112AlikeNodes(t *testing.T) {
	one := leaf("1", long)
	low := branch("", kids{"6": one, "7": one})
	top := branch("", kids{"6": ext("1", low), "7": ext("1", low)})
	w := watch(t, trieOf(pairs{"aa": long, "aq": long, "qa": long, "qq": long}))
	w.says(get("aa"), has(long))
	w.notes("the first", top, ext("1", low), low, one)
	for _, c := range []call{get("qa"), get("qq"), put("qa", other), del("qq"), del("aa"), del("aq"), del("qa")} {
		w.do(c)
		w.notes(c.String(), top, ext("1", low), low, one)
	}
	w.enough()
}
