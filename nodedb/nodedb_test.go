package nodedb_test

import (
	"fmt"
	"math"
	"slices"
	"testing"

	"pergola/api"
	"pergola/digest"
	"pergola/nodedb"
)

type Text = nodedb.Text

func TestExamples(t *testing.T) {
	s := nodedb.New[Text](2)
	put := func(text string, want api.Errno) {
		t.Helper()
		wantD := name(text)
		if want != api.OK {
			wantD = api.Digest{}
		}
		if d, e := s.Put(Text(text)); d != wantD || e != want {
			t.Errorf("P6.2: Put(%q) = %x, %d, not %d", text, d, e, want)
		}
	}
	drop := func(text string, gone bool, want api.Errno) {
		t.Helper()
		if g, e := s.Drop(name(text)); g != gone || e != want {
			t.Errorf("P6.3: Drop(%q) = %v, %d, not %v, %d", text, g, e, gone, want)
		}
	}
	put("a", api.OK)
	put("a", api.OK)
	put("b", api.OK)
	put("c", api.ErrNodedbFull)
	if v, n, is := s.Get(name("a")); v != "a" || n != 2 || !is {
		t.Error("P6.4: Get(a):", v, n, is)
	}
	if v, n, is := s.Get(name("c")); v != "" || n != 0 || is {
		t.Error("P6.4: Get(c):", v, n, is)
	}
	if s.Len() != 2 {
		t.Error("P6.4: Len:", s.Len())
	}
	drop("a", false, api.OK)
	drop("a", true, api.OK)
	drop("a", false, api.ErrNodedbNone)
	put("c", api.OK)
	s = nodedb.New[Text](-1)
	put("a", api.ErrNodedbFull)
}

func TestErrorNumbers(t *testing.T) {
	s := nodedb.New[Text](0)
	if _, e := s.Put("a"); e != 62 {
		t.Error("ErrNodedbFull:", e)
	}
	if _, e := s.Drop(name("a")); e != 61 {
		t.Error("ErrNodedbNone:", e)
	}
}

func TestP61ANewStoreHasNothing(t *testing.T) {
	for _, most := range []int{math.MinInt, -2, -1, 0, 1, 2, 1000, math.MaxInt} {
		s := nodedb.New[Text](most)
		alike(t, s, &bag{room: most}, "", "a", "b")
		for _, d := range []api.Digest{{}, name(""), name("a"), {31: 1}} {
			if gone, e := s.Drop(d); gone || e != api.ErrNodedbNone {
				t.Errorf("P6.3: Drop of %x from a store without things = %v, %d", d, gone, e)
			}
			if v, n, is := s.Get(d); v != "" || n != 0 || is {
				t.Errorf("P6.4: Get of %x from a store without things = %q, %d, %v", d, v, n, is)
			}
		}
	}
}

func TestP61Room(t *testing.T) {
	for _, most := range []int{math.MinInt, -1 << 32, -2, -1, 0, 1, 2, 3, 7, 64, 300, 1 << 32, math.MaxInt} {
		s, room := nodedb.New[Text](most), min(max(most, 0), 400)
		for i := range room {
			if d, e := s.Put(Text(fmt.Sprint(i))); d != name(fmt.Sprint(i)) || e != api.OK {
				t.Fatalf("P6.1: room for %d: the thing %d: %x, %d", most, i, d, e)
			}
		}
		if room == 400 {
			continue
		}
		for _, more := range []string{"", "more", "-1"} {
			if d, e := s.Put(Text(more)); d != (api.Digest{}) || e != api.ErrNodedbFull {
				t.Fatalf("P6.1: room for %d, all of it taken: %x, %d", most, d, e)
			}
		}
		if s.Len() != room || len(s.List()) != room {
			t.Fatalf("P6.1: room for %d: Len %d, List %d", most, s.Len(), len(s.List()))
		}
	}
}

func TestAFullStore(t *testing.T) {
	s, b := nodedb.New[Text](2), &bag{room: 2}
	for _, x := range []step{
		{false, "a"}, {false, "b"},
		{false, "a"}, {false, "c"}, {false, "b"}, {false, "b"}, {false, ""}, // full: one that it has, and one that it has not
		{true, "a"}, {false, "c"}, {true, "a"}, {false, "c"}, // room behind the last Drop alone
		{false, "a"}, {true, "a"},
		{true, "c"}, {false, "a"}, {false, "c"}, // one that went, again; the other finds no room
		{true, "b"}, {true, "b"}, {true, "b"}, {true, "b"}, {false, ""}, {false, "b"},
	} {
		do(t, s, b, x)
		alike(t, s, b, "", "a", "b", "c")
	}
}

func TestP62ManyReferences(t *testing.T) {
	for _, text := range []string{"", "a", "\x00", "a longer text, of more than 32 bytes, and of two pieces"} {
		for _, n := range []int{1, 2, 3, 100, 5000} {
			s := nodedb.New[Text](1)
			for i := range n {
				if d, e := s.Put(Text(text)); d != name(text) || e != api.OK {
					t.Fatalf("P6.2: Put(%q), the time %d = %x, %d", text, i, d, e)
				}
				if v, refs, is := s.Get(name(text)); string(v) != text || refs != i+1 || !is || s.Len() != 1 {
					t.Fatalf("P6.4: Get(%q) = %q, %d, %v behind %d", text, v, refs, is, i+1)
				}
			}
			for i := range n {
				if gone, e := s.Drop(name(text)); gone != (i == n-1) || e != api.OK {
					t.Fatalf("P6.3: Drop(%q), the time %d of %d = %v, %d", text, i, n, gone, e)
				}
			}
			alike(t, s, &bag{room: 1}, text)
			if gone, e := s.Drop(name(text)); gone || e != api.ErrNodedbNone {
				t.Fatalf("P6.3: Drop(%q) once more = %v, %d", text, gone, e)
			}
			if d, e := s.Put(Text(text)); d != name(text) || e != api.OK {
				t.Fatalf("P6.2: Put(%q) of one that went = %x, %d", text, d, e)
			}
			if _, refs, _ := s.Get(name(text)); refs != 1 {
				t.Fatalf("P6.2: %q went, and is there again with %d references", text, refs)
			}
		}
	}
}

func TestP63DropOfWhatIsNotThere(t *testing.T) {
	s, b := nodedb.New[Text](3), &bag{room: 3}
	for _, x := range []step{{false, "a"}, {false, ""}, {false, "a"}} {
		do(t, s, b, x)
	}
	for i := range 32 {
		d := name("a")
		d[i] ^= 1
		if gone, e := s.Drop(d); gone || e != api.ErrNodedbNone {
			t.Errorf("P6.3: Drop of %x = %v, %d", d, gone, e)
		}
		if v, n, is := s.Get(d); v != "" || n != 0 || is {
			t.Errorf("P6.4: Get of %x = %q, %d, %v", d, v, n, is)
		}
	}
	if gone, e := s.Drop(api.Digest{}); gone || e != api.ErrNodedbNone {
		t.Error("P6.3: Drop of the zero digest:", gone, e)
	}
	alike(t, s, b, "", "a", "b")
}

// P6.2 to P6.4: all rows of five calls on three texts, with each room.
func TestAllShortRows(t *testing.T) {
	for _, room := range []int{-1, 0, 1, 2, 3} {
		for _, row := range sequences(5, steps("", "a", "b")) {
			s, b := nodedb.New[Text](room), &bag{room: room}
			for _, x := range row {
				do(t, s, b, x)
				alike(t, s, b, "", "a", "b")
			}
		}
	}
}

// next goes round all numbers, in an order that is no simple one.
func next(n uint32) uint32 { return n*1664525 + 1013904223 }

func TestLongRows(t *testing.T) {
	var texts []string
	for i := range 12 {
		texts = append(texts, fmt.Sprint("text ", i*i*i*i*i*i))
	}
	for _, room := range []int{1, 5, 11, 12, 13} {
		s, b, n := nodedb.New[Text](room), &bag{room: room}, uint32(room)
		for range 3000 {
			n = next(n)
			do(t, s, b, step{n>>28 < 8, texts[n>>16%12]})
			alike(t, s, b, texts...)
		}
	}
}

func TestP64ListIsOrdered(t *testing.T) {
	texts := []string{""}
	for i := range 300 {
		texts = append(texts, fmt.Sprint(i))
	}
	byDigest := slices.Clone(texts)
	slices.SortFunc(byDigest, func(x, y string) int {
		if digest.Print(name(x)) < digest.Print(name(y)) {
			return -1
		}
		return 1
	})
	back := slices.Clone(byDigest)
	slices.Reverse(back)
	for _, order := range [][]string{texts, byDigest, back} {
		s := nodedb.New[Text](len(texts))
		for i, x := range order {
			s.Put(Text(x))
			if i%3 == 0 {
				s.Put(Text(order[0]))
			}
		}
		for range 3 {
			l := s.List()
			if len(l) != len(byDigest) {
				t.Fatal("P6.4: List has", len(l))
			}
			for i, x := range byDigest {
				if l[i] != name(x) {
					t.Fatalf("P6.4: List has %x at %d, not %x", l[i], i, name(x))
				}
			}
		}
	}
}

func TestP65TextBytes(t *testing.T) {
	for _, text := range []string{"", "a", "ab", "\x00", "a\x00b", "\xff\xfe", "é", "a text of some length, and a bit more of it than 32 bytes"} {
		b := Text(text).Bytes()
		if len(b) != len(text) {
			t.Fatalf("P6.5: Bytes of %q = %x", text, b)
		}
		for i := range b {
			if b[i] != text[i] {
				t.Fatalf("P6.5: Bytes of %q = %x", text, b)
			}
		}
	}
	for i := range 256 {
		if b := Text([]byte{byte(i)}).Bytes(); len(b) != 1 || b[0] != byte(i) {
			t.Errorf("P6.5: Bytes of the byte %d = %x", i, b)
		}
	}
	if d, e := nodedb.New[Text](1).Put("\xff\x00"); d != digest.Of([]byte{0xff, 0}) || e != api.OK {
		t.Errorf("P6.5: Put of a text that is no runes = %x, %d", d, e)
	}
}

// A thing is there just as long as it was laid in and taken more often than dropped.
func TestP66LaidInMoreOftenThanDropped(t *testing.T) {
	for _, room := range []int{0, 1, 2} {
		for _, row := range sequences(6, steps("a", "b")) {
			s, count := nodedb.New[Text](room), map[string]int{}
			for _, x := range row {
				if x.drop {
					if _, e := s.Drop(name(x.text)); e == api.OK {
						count[x.text]--
					}
				} else if _, e := s.Put(Text(x.text)); e == api.OK {
					count[x.text]++
				}
				for _, text := range []string{"a", "b"} {
					if _, n, is := s.Get(name(text)); is != (count[text] > 0) || n != count[text] {
						t.Fatalf("P6.6: %v: %q: %d, %v, and not %d", row, text, n, is, count[text])
					}
				}
			}
		}
	}
}

// In which order things were laid in is not seen, as long as there is room.
func TestP66OrderIsNotSeen(t *testing.T) {
	want := &bag{room: 4, texts: []string{"", "a", "a", "b", "b", "b", "c"}}
	for _, turn := range []int{0, 1, 2, 3, 4, 5, 6} {
		for _, by := range []int{1, 2, 3, 4, 5, 6} {
			s := nodedb.New[Text](4)
			for i := range want.texts {
				if _, e := s.Put(Text(want.texts[(turn+i*by)%7])); e != api.OK {
					t.Fatal("P6.6: refused:", e)
				}
			}
			alike(t, s, want, "d")
		}
	}
}

// A Put that is taken and a Drop of its digest change nothing: whatever is called behind them is answered alike.
func TestP66PutAndDrop(t *testing.T) {
	texts := []string{"", "a", "b"}
	for _, room := range []int{0, 1, 2, 3} {
		for _, row := range sequences(3, steps(texts...)) {
			s, b := nodedb.New[Text](room), &bag{room: room}
			for _, x := range row {
				do(t, s, b, x)
			}
			for _, x := range texts {
				if d, e := s.Put(Text(x)); e == api.OK {
					if gone, e := s.Drop(d); e != api.OK || gone != (b.count(x) == 0) {
						t.Fatalf("P6.6: %v: Drop behind Put(%q) = %v, %d", row, x, gone, e)
					}
				}
				alike(t, s, b, texts...)
			}
			for _, x := range steps(texts...) {
				do(t, s, b, x)
				alike(t, s, b, texts...)
			}
		}
	}
}
