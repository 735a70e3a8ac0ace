package nodedb_test

import (
	"slices"
	"testing"

	"pergola/api"
	"pergola/nodedb"
)

// slate is a thing whose bytes may be written anew; mark is not among them.
type slate struct {
	text string
	mark int
}

func (x *slate) Bytes() []byte { return []byte(x.text) }

// script is a thing that tells other bytes each time; the last ones again and again.
type script struct{ texts []string }

func (x *script) Bytes() []byte {
	text := x.texts[0]
	if len(x.texts) > 1 {
		x.texts = x.texts[1:]
	}
	return []byte(text)
}

// board is a thing that tells its bytes in memory that it shares with others.
type board struct {
	room *[64]byte
	text *string
}

func (x board) Bytes() []byte { return x.room[:copy(x.room[:], *x.text)] }

// refused asks that a Put is a clash.
func refused[V nodedb.Thing](t *testing.T, s *nodedb.Store[V], v V) {
	t.Helper()
	if d, e := s.Put(v); d != (api.Digest{}) || e != api.ErrNodedbClash {
		t.Fatalf("P6.2: Put of %v = %x, %d, not ErrNodedbClash", v, d, e)
	}
}

// taken asks that a Put is taken, under a text's digest.
func taken[V nodedb.Thing](t *testing.T, s *nodedb.Store[V], v V, text string) {
	t.Helper()
	if d, e := s.Put(v); d != name(text) || e != api.OK {
		t.Fatalf("P6.2: Put of %v = %x, %d, not taken under %x", v, d, e, name(text))
	}
}

// has asks what a store of slates has under a text's digest; a nil slate: nothing.
func has(t *testing.T, s *nodedb.Store[*slate], text string, want *slate, refs int) {
	t.Helper()
	if v, n, is := s.Get(name(text)); v != want || n != refs || is != (want != nil) {
		t.Fatalf("P6.4: Get(%q) = %v, %d, %v, not %v, %d", text, v, n, is, want, refs)
	}
}

// others are bytes that are not those of the text "ab".
var others = []string{"", "a", "b", "ba", "aba", "abb", "ab\x00", "ac", "Ab", "ab and a text of more than 32 bytes behind it"}

func TestP62ClashWithOneThatHasChanged(t *testing.T) {
	for _, other := range others {
		for _, room := range []int{1, 2} {
			s, first := nodedb.New[*slate](room), &slate{text: "ab"}
			taken(t, s, first, "ab")
			taken(t, s, first, "ab")
			first.text = other
			refused(t, s, &slate{text: "ab"})
			has(t, s, "ab", first, 2)
			has(t, s, other, nil, 0)
			if l := s.List(); s.Len() != 1 || !slices.Equal(l, []api.Digest{name("ab")}) {
				t.Fatalf("P6.4: behind a clash: Len %d, List %x", s.Len(), l)
			}
			first.text = "ab"
			taken(t, s, &slate{text: "ab"}, "ab")
			has(t, s, "ab", first, 3)
		}
	}
}

func TestP62NoClashOfOtherDigests(t *testing.T) {
	for _, other := range others {
		s, first := nodedb.New[*slate](2), &slate{text: "ab"}
		taken(t, s, first, "ab")
		first.text = other
		taken(t, s, first, other)
		has(t, s, "ab", first, 1)
		has(t, s, other, first, 1)
		refused(t, s, &slate{text: "ab"})
		taken(t, s, &slate{text: other}, other)
		if gone, e := s.Drop(name("ab")); !gone || e != api.OK {
			t.Fatal("P6.3: Drop of one that has changed:", gone, e)
		}
		has(t, s, "ab", nil, 0)
		has(t, s, other, first, 2)
		again := &slate{text: "ab"}
		taken(t, s, again, "ab")
		has(t, s, "ab", again, 1)
	}
}

func TestP62UnlikeThingsOfTheSameBytes(t *testing.T) {
	for _, text := range []string{"", "a", "a text of more than 32 bytes, which is told in two pieces"} {
		s, first, second := nodedb.New[*slate](1), &slate{text, 1}, &slate{text, 2}
		taken(t, s, first, text)
		taken(t, s, second, text)
		has(t, s, text, first, 2)
		second.text = "another"
		taken(t, s, &slate{text, 3}, text)
		has(t, s, text, first, 3)
		for range 3 {
			s.Drop(name(text))
		}
		taken(t, s, &slate{text, 4}, text)
		if v, n, _ := s.Get(name(text)); v.mark != 4 || n != 1 {
			t.Fatal("P6.2: another one behind the last Drop:", v, n)
		}
	}
}

// A clash is told ahead of a store that is full.
func TestP62ClashInAFullStore(t *testing.T) {
	s, first, second := nodedb.New[*slate](2), &slate{text: "a"}, &slate{text: "b"}
	taken(t, s, first, "a")
	taken(t, s, second, "b")
	first.text, second.text = "b", "a"
	refused(t, s, &slate{text: "a"})
	refused(t, s, first)
	refused(t, s, second)
	if d, e := s.Put(&slate{text: "c"}); d != (api.Digest{}) || e != api.ErrNodedbFull {
		t.Errorf("P6.2: Put where there is no room = %x, %d", d, e)
	}
	has(t, s, "a", first, 1)
	has(t, s, "b", second, 1)
	has(t, s, "c", nil, 0)
	if s.Len() != 2 || len(s.List()) != 2 {
		t.Error("P6.4: Len, List:", s.Len(), s.List())
	}
}

// A thing may be held against itself: what it tells while it is laid in again is held against what it tells behind that.
func TestP62ClashWithItself(t *testing.T) {
	s, x := nodedb.New[*script](2), &script{texts: []string{"a", "a", "b", "a", "a", "c"}}
	taken(t, s, x, "a")
	refused(t, s, x)
	taken(t, s, x, "a")
	if v, n, is := s.Get(name("a")); v != x || n != 2 || !is || s.Len() != 1 {
		t.Error("P6.4: Get:", v, n, is, s.Len())
	}
	taken(t, s, x, "c")
	if v, n, is := s.Get(name("c")); v != x || n != 1 || !is || s.Len() != 2 {
		t.Error("P6.4: Get:", v, n, is, s.Len())
	}
}

// Bytes are held against each other as they were told, though both were told in one memory.
func TestP62ClashInSharedMemory(t *testing.T) {
	room, a, b := &[64]byte{}, "a", "b"
	s := nodedb.New[board](4)
	taken(t, s, board{room, &a}, "a")
	taken(t, s, board{room, &b}, "b")
	taken(t, s, board{room, &a}, "a")
	a = "c"
	old := "a"
	refused(t, s, board{room, &old})
	taken(t, s, board{room, &b}, "b")
	taken(t, s, board{room, &a}, "c")
	for _, x := range []struct {
		text string
		refs int
	}{{"a", 2}, {"b", 2}, {"c", 1}, {"d", 0}} {
		if _, n, is := s.Get(name(x.text)); n != x.refs || is != (n > 0) {
			t.Errorf("P6.4: Get(%q): %d, %v, not %d", x.text, n, is, x.refs)
		}
	}
}

func TestClashNumber(t *testing.T) {
	s, x := nodedb.New[*slate](1), &slate{text: "a"}
	s.Put(x)
	x.text = "b"
	if _, e := s.Put(&slate{text: "a"}); e != 60 {
		t.Error("ErrNodedbClash:", e)
	}
}

// A clash at a store and at its clone: the things are the same ones, the counts are not.
func TestClashAtAClone(t *testing.T) {
	s, x := nodedb.New[*slate](1), &slate{text: "a"}
	taken(t, s, x, "a")
	c := s.Clone()
	taken(t, c, &slate{text: "a"}, "a")
	x.text = "b"
	refused(t, s, &slate{text: "a"})
	refused(t, c, &slate{text: "a"})
	has(t, s, "a", x, 1)
	has(t, c, "a", x, 2)
}
