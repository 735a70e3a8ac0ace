package nodedb_test

import (
	"bytes"
	"fmt"
	"slices"
	"testing"

	"pergola/api"
	"pergola/nodedb"
)

// scribble writes over a list and its spare room.
func scribble(b []byte) {
	all := b[:cap(b)]
	for i := range all {
		all[i] ^= 0xa5
	}
}

func scribbleList(l []api.Digest) {
	all := l[:cap(l)]
	for i := range all {
		all[i] = api.Digest{7, 7, 7}
	}
}

// page is a thing that tells its own memory, with what is spare in it.
type page struct{ b []byte }

func (x page) Bytes() []byte { return x.b }

// pair is a plain value.
type pair struct{ key, value string }

func (x pair) Bytes() []byte { return []byte(x.key + "=" + x.value) }

func TestR5WritingOverAList(t *testing.T) {
	for _, n := range []int{0, 1, 2, 3, 5, 9, 100} {
		s, b := nodedb.New[Text](n), &bag{room: n}
		for i := range n {
			do(t, s, b, step{false, fmt.Sprint(i)})
		}
		c := s.Clone()
		first, second := s.List(), s.List()
		want := slices.Clone(first)
		scribbleList(first)
		if !slices.Equal(second, want) {
			t.Fatal("R5: writing over a list is seen in an earlier answer:", n)
		}
		alike(t, s, b)
		alike(t, c, b)
		first, second = s.List(), c.List()
		scribbleList(first)
		if !slices.Equal(second, want) {
			t.Fatal("R5: writing over a list is seen in a clone's:", n)
		}
	}
}

func TestR5WritingOverBytes(t *testing.T) {
	for _, text := range []string{"", "a", "ab", "a text of some length, and a bit more of it than 32 bytes"} {
		x := Text(text)
		first, second := x.Bytes(), x.Bytes()
		scribble(first)
		if string(second) != text || string(x) != text || string(x.Bytes()) != text {
			t.Errorf("R5: writing over the bytes of %q is seen", text)
		}
		s := nodedb.New[Text](1)
		s.Put(x)
		v, _, _ := s.Get(name(text))
		scribble(v.Bytes())
		if v, n, is := s.Get(name(text)); string(v) != text || n != 1 || !is {
			t.Errorf("R5: writing over the bytes of what was told: Get(%q) = %q, %d, %v", text, v, n, is)
		}
		if d, e := s.Put(x); d != name(text) || e != api.OK {
			t.Errorf("R5: writing over the bytes of what was told: Put(%q) = %x, %d", text, d, e)
		}
	}
}

func TestR5WhatIsHandedInStaysAsItIs(t *testing.T) {
	const spare = " spare room"
	s := nodedb.New[page](1)
	for _, text := range []string{"a", "a", "b"} { // taken, once more, refused
		all := []byte(text + spare)
		s.Put(page{all[:len(text)]})
		if string(all) != text+spare {
			t.Errorf("R5: a Put changed what was handed in: %q", all)
		}
	}
	x, _, _ := s.Get(name("a"))
	if string(x.b[:cap(x.b)][:1+len(spare)]) != "a"+spare {
		t.Error("the thing that was laid in first is not the one that is told")
	}
}

// Things are kept as the language copies them: a plain value does not follow the caller's variable, and what a pointer shows is shared.
func TestThingsAsTheLanguageCopiesThem(t *testing.T) {
	s := nodedb.New[pair](1)
	x := pair{"a", "1"}
	d, _ := s.Put(x)
	x.value = "2"
	v, n, is := s.Get(d)
	if v != (pair{"a", "1"}) || n != 1 || !is {
		t.Error("a value that was written over behind a Put:", v, n, is)
	}
	v.value = "3"
	if v, _, _ := s.Get(d); v != (pair{"a", "1"}) {
		t.Error("a value that was written over behind a Get:", v)
	}
	b := []byte("a")
	p := nodedb.New[page](1)
	p.Put(page{b})
	if v, _, _ := p.Get(name("a")); &v.b[0] != &b[0] {
		t.Error("a list inside a thing is not copied by the language, but was")
	}
}

func TestStoresOfOtherTypes(t *testing.T) {
	s := nodedb.New[pair](2)
	a, e := s.Put(pair{"a", "1"})
	if a != name("a=1") || e != api.OK {
		t.Errorf("P6.2: Put = %x, %d", a, e)
	}
	// Unlike things that answer alike: the first one stays.
	s.Put(pair{"b", "x=y"})
	if d, e := s.Put(pair{"b=x", "y"}); d != name("b=x=y") || e != api.OK {
		t.Errorf("P6.2: Put = %x, %d", d, e)
	}
	if v, n, is := s.Get(name("b=x=y")); v != (pair{"b", "x=y"}) || n != 2 || !is {
		t.Error("P6.4: Get:", v, n, is)
	}
	if d, e := s.Put(pair{}); d != (api.Digest{}) || e != api.ErrNodedbFull {
		t.Errorf("P6.2: Put where there is no room = %x, %d", d, e)
	}
	if v, n, is := s.Get(name("=")); v != (pair{}) || n != 0 || is {
		t.Error("P6.4: Get of what is not there:", v, n, is)
	}
	if gone, e := s.Drop(a); !gone || e != api.OK {
		t.Error("P6.3: Drop:", gone, e)
	}
	if v, n, is := s.Get(a); v != (pair{}) || n != 0 || is {
		t.Error("P6.4: Get of what went:", v, n, is)
	}
	if l := s.List(); s.Len() != 1 || len(l) != 1 || l[0] != name("b=x=y") {
		t.Error("P6.4: List, Len:", l, s.Len())
	}
}

// A store of things of several types, by their interface.
func TestAStoreOfThings(t *testing.T) {
	s := nodedb.New[nodedb.Thing](3)
	for _, x := range []nodedb.Thing{Text("a=1"), pair{"a", "1"}, &slate{text: "a=1"}, page{[]byte("a=1")}, page{}} {
		if _, e := s.Put(x); e != api.OK {
			t.Fatal("P6.2: Put:", x, e)
		}
	}
	if v, n, is := s.Get(name("a=1")); v != nodedb.Thing(Text("a=1")) || n != 4 || !is {
		t.Error("P6.4: Get:", v, n, is)
	}
	if v, n, is := s.Get(name("")); n != 1 || !is || !bytes.Equal(v.Bytes(), nil) {
		t.Error("P6.4: Get of a thing without bytes:", v, n, is)
	}
	if v, n, is := s.Get(name("b")); v != nil || n != 0 || is {
		t.Error("P6.4: Get of what is not there:", v, n, is)
	}
}

// R7: behind each row of calls a clone is made; each call on one of the two is seen there alone.
func TestR7Clones(t *testing.T) {
	texts := []string{"", "a", "b"}
	all := steps(texts...)
	for _, room := range []int{-1, 0, 1, 2, 3} {
		for _, row := range sequences(3, all) {
			s, b := nodedb.New[Text](room), &bag{room: room}
			for _, x := range row {
				do(t, s, b, x)
			}
			for i, x := range all {
				c, cb := s.Clone(), &bag{room, slices.Clone(b.texts)}
				alike(t, c, cb, texts...)
				do(t, c, cb, x)
				alike(t, s, b, texts...)
				y := all[(i*5+1)%len(all)]
				do(t, s, b, y)
				alike(t, c, cb, texts...)
				for _, z := range all {
					do(t, c, cb, z)
				}
				alike(t, s, b, texts...)
				alike(t, c, cb, texts...)
			}
		}
	}
}

// R7: a clone outlives the things of its store, and a clone of a clone is one of its own.
func TestR7ClonesOfClones(t *testing.T) {
	s, b := nodedb.New[Text](3), &bag{room: 3}
	for _, x := range []string{"a", "a", "b"} {
		do(t, s, b, step{false, x})
	}
	c, cb := s.Clone(), &bag{3, slices.Clone(b.texts)}
	do(t, c, cb, step{false, "c"})
	e, eb := c.Clone(), &bag{3, slices.Clone(cb.texts)}
	for _, x := range []string{"a", "a", "b"} {
		do(t, s, b, step{true, x})
	}
	do(t, e, eb, step{false, "d"})
	do(t, e, eb, step{true, "b"})
	do(t, e, eb, step{false, "d"})
	alike(t, s, b, "a", "b", "c", "d")
	alike(t, c, cb, "a", "b", "c", "d")
	alike(t, e, eb, "a", "b", "c", "d")
}

// R6: one store knows nothing of another.
func TestR6StoresApart(t *testing.T) {
	s, u := nodedb.New[Text](1), nodedb.New[Text](1)
	s.Put("a")
	alike(t, u, &bag{room: 1}, "a")
	if d, e := u.Put("b"); d != name("b") || e != api.OK {
		t.Errorf("R6: Put = %x, %d", d, e)
	}
	alike(t, s, &bag{1, []string{"a"}}, "a", "b")
}
