package proof_test

import (
	"slices"
	"testing"

	"pergola/api"
	"pergola/digest"
	"pergola/node"
	"pergola/proof"
	"pergola/trie"
)

// scribble writes over a list and its spare room.
func scribble(b []byte) {
	all := b[:cap(b)]
	for i := range all {
		all[i] ^= 0xa5
	}
}

// scribbleAll writes over all things of a list, and over the list and its spare room.
func scribbleAll(l [][]byte) {
	all := l[:cap(l)]
	for i := range all {
		scribble(all[i])
		all[i] = []byte("over")
	}
}

const spare = "\x01\x02\x03\x04 spare room"

// roomy is a copy of a text with spare room behind its end.
func roomy(text string) []byte { return append([]byte(text), spare...)[:len(text)] }

// roomyList is a copy of a list, with spare room behind its end and behind each thing's.
func roomyList(l [][]byte) [][]byte {
	c := make([][]byte, 0, len(l)+2)
	for _, b := range l {
		c = append(c, roomy(string(b)))
	}
	return append(c, []byte(spare), []byte("more"))[:len(l)]
}

// whole asks that a roomy copy is as it was, and its spare room too.
func whole(t *testing.T, text string, b []byte) {
	t.Helper()
	if got := string(b[:len(text)+len(spare)]); got != text+spare {
		t.Fatalf("R5: what was handed in, %q, became %q", text+spare, got)
	}
}

func wholeList(t *testing.T, l, given [][]byte) {
	t.Helper()
	for i, b := range l {
		whole(t, string(b), given[i])
	}
	if more := given[len(l) : len(l)+2]; string(more[0]) != spare || string(more[1]) != "more" {
		t.Fatalf("R5: the room behind a list became %q", more)
	}
}

func TestR5WhatIsHandedInStaysAsItIs(t *testing.T) {
	for _, p := range someTries() {
		x := trieOf(p)
		for _, text := range append(edgeKeys(), wrongKeys()...) {
			key := roomy(text)
			l, _ := proof.Prove(x, key)
			for _, some := range [][][]byte{l, slices.Repeat(l, 2), nil, noNodes(), append(noNodes(), l...)} {
				for _, root := range []api.Digest{x.Root(), node.EmptyRoot()} {
					given := roomyList(some)
					v, _, _ := proof.Verify(root, key, given)
					scribble(v)
					wholeList(t, some, given)
				}
			}
			scribbleAll(l)
			whole(t, text, key)
		}
		alike(t, x, p)
	}
}

// What was handed in may be written over later, by the caller: also one memory for all.
func TestR5WhatIsHandedInIsNotKept(t *testing.T) {
	room := make([]byte, 64)
	for _, p := range someTries() {
		x := trieOf(p)
		for _, key := range edgeKeys() {
			l, _ := proof.Prove(x, append(room[:0], key...))
			scribble(room)
			if want := plainProve(x, key); !slices.Equal(texts(l), want) {
				t.Fatalf("R5: writing over a key is seen in its proof: %x", l)
			}
			given := roomyList(l)
			v, has, e := proof.Verify(x.Root(), append(room[:0], key...), given)
			scribble(room)
			scribbleAll(given)
			if value, is := p[key]; string(v) != value || has != is || e != api.OK {
				t.Fatalf("R5: writing over a proof is seen in the value: %q", v)
			}
		}
		alike(t, x, p, edgeKeys()...)
	}
}

// The key, the proof and its things stand in one memory.
func TestR5OneMemory(t *testing.T) {
	p := plain{"ab": long, "ac": other}
	x := trieOf(p)
	l := proved(t, x, "ab")
	room := slices.Concat([]byte("ab"), l[0], l[1], l[2])
	a, b := 2+len(l[0]), 2+len(l[0])+len(l[1])
	given := [][]byte{room[2:a], room[a:b], room[b:]}
	before := slices.Clone(room)
	v, has, e := proof.Verify(x.Root(), room[:2], given)
	scribble(v)
	if !has || e != api.OK || !slices.Equal(room, before) {
		t.Fatalf("R5: in one memory: %v, %d", has, e)
	}
	says(t, "R5: in one memory", x.Root(), "ab", given, long, true, api.OK)
}

func TestR5WritingOverWhatProveTold(t *testing.T) {
	for _, p := range someTries() {
		x := trieOf(p)
		c := x.Clone()
		for _, key := range edgeKeys() {
			want := plainProve(x, key)
			earlier := proved(t, x, key)
			for i := range want {
				l := proved(t, x, key)
				scribble(l[i])
				_ = append(l[i], "behind"...)
				for k, b := range l {
					if k != i && string(b) != want[k] {
						t.Fatalf("R5: writing over the thing %d is seen in the thing %d", i, k)
					}
				}
			}
			scribbleAll(proved(t, x, key))
			if !slices.Equal(texts(earlier), want) {
				t.Fatalf("R5: writing over a proof is seen in an earlier one: %x", earlier)
			}
			if later := proved(t, x, key); !slices.Equal(texts(later), want) {
				t.Fatalf("R5: writing over a proof is seen in a later one: %x", later)
			}
		}
		alike(t, x, p)
		alike(t, c, p)
	}
}

func TestR5SpareRoomOfWhatProveTold(t *testing.T) {
	for _, p := range someTries() {
		x := trieOf(p)
		for _, key := range edgeKeys() {
			l := proved(t, x, key)
			for i, b := range l {
				room := b[len(b):cap(b)]
				for k := range room {
					room[k] = byte(i + 1)
				}
			}
			for i, b := range l {
				for _, c := range b[len(b):cap(b)] {
					if c != byte(i+1) {
						t.Fatalf("R5: the spare room of the thing %d is that of another one", i)
					}
				}
			}
			if want := plainProve(x, key); !slices.Equal(texts(l), want) {
				t.Fatalf("R5: writing into the spare room of a proof is seen: %x", l)
			}
		}
	}
}

func TestR5WritingOverWhatVerifyTold(t *testing.T) {
	for _, p := range someTries() {
		x := trieOf(p)
		for key, value := range p {
			l := proved(t, x, key)
			before := texts(l)
			first, _, _ := proof.Verify(x.Root(), []byte(key), l)
			second, _, _ := proof.Verify(x.Root(), []byte(key), l)
			scribble(first)
			_ = append(first, "behind"...)
			if string(second) != value || !slices.Equal(texts(l), before) {
				t.Fatalf("R5: writing over a value is seen: %q, %x", second, l)
			}
			says(t, "R5: writing over a value", x.Root(), key, l, value, true, api.OK)
		}
		alike(t, x, p)
	}
}

func TestR4NilAndEmptyAreTheSame(t *testing.T) {
	for _, p := range someTries() {
		x := trieOf(p)
		l, e := proof.Prove(x, nil)
		if m, f := proof.Prove(x, []byte{}); !slices.Equal(texts(l), texts(m)) || e != f {
			t.Fatalf("R4: Prove of nothing: %x, %d and %x, %d", l, e, m, f)
		}
		value, has := p[""]
		for _, key := range [][]byte{nil, {}} {
			if v, is, e := proof.Verify(x.Root(), key, l); string(v) != value || is != has || e != api.OK {
				t.Fatalf("R4: Verify of nothing: %q, %v, %d", v, is, e)
			}
			for _, root := range []api.Digest{x.Root(), node.EmptyRoot(), digest.Of(nil), {}} {
				_, is, e := proof.Verify(root, key, nil)
				if _, also, f := proof.Verify(root, key, [][]byte{}); is || also || e != f {
					t.Fatalf("R4: Verify by nothing: %v, %d and %v, %d", is, e, also, f)
				}
			}
			for _, b := range [][]byte{nil, {}} {
				refused(t, "R4: by a thing of nothing", digest.Of(nil), "", [][]byte{b})
			}
		}
	}
}

// R6: in whatever order it is asked, and how often.
func TestR6OneAnswer(t *testing.T) {
	p := someTries()["long ones inside"]
	x := trieOf(p)
	want := map[string][]string{}
	for _, key := range edgeKeys() {
		want[key] = texts(proved(t, x, key))
	}
	keys := edgeKeys()
	slices.Reverse(keys)
	for range 3 {
		for _, key := range keys {
			proof.Prove(x, []byte(wrongKeys()[0]))
			proof.Prove(trie.New(), []byte(key))
			proof.Verify(x.Root(), []byte(key), noNodes())
			if l := proved(t, x, key); !slices.Equal(texts(l), want[key]) {
				t.Fatalf("R6: Prove(%q) = %x, later", key, l)
			}
			value, has := p[key]
			says(t, "R6", x.Root(), key, lists(want[key]), value, has, api.OK)
		}
	}
}
