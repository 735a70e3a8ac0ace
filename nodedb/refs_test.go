package nodedb

import (
	"testing"

	"pergola/api"
	"pergola/digest"
)

// changing is a thing whose bytes may be written anew.
type changing struct{ text string }

func (x *changing) Bytes() []byte { return []byte(x.text) }

// So many references can't be laid in one by one in a test: the count is set here.
func counted(refs int, things ...*changing) *Store[*changing] {
	s := New[*changing](len(things))
	for _, x := range things {
		s.kept[digest.Of(x.Bytes())] = entry[*changing]{x, refs}
	}
	return s
}

func TestP62MostReferences(t *testing.T) {
	x, other, d := &changing{"a"}, &changing{"b"}, digest.Of([]byte("a"))
	s := counted(api.MaxRefs-1, x, other)
	count := func(want int) {
		t.Helper()
		if v, n, is := s.Get(d); v != x || n != want || !is || s.Len() != 2 {
			t.Fatal("P6.2: Get:", v, n, is, "not", want)
		}
	}
	count(api.MaxRefs - 1)
	if got, e := s.Put(&changing{"a"}); got != d || e != api.OK {
		t.Fatal("P6.2: Put at one less than MaxRefs:", got, e)
	}
	count(api.MaxRefs)
	for range 2 {
		if got, e := s.Put(&changing{"a"}); got != (api.Digest{}) || e != api.ErrNodedbFull {
			t.Fatal("P6.2: Put at MaxRefs:", got, e)
		}
		count(api.MaxRefs)
	}
	if got, e := s.Put(other); got != digest.Of([]byte("b")) || e != api.OK {
		t.Fatal("P6.2: Put of another one:", got, e)
	}
	if gone, e := s.Drop(d); gone || e != api.OK {
		t.Fatal("P6.3: Drop at MaxRefs:", gone, e)
	}
	count(api.MaxRefs - 1)
	if got, e := s.Put(x); got != d || e != api.OK {
		t.Fatal("P6.2: Put behind a Drop:", got, e)
	}
	count(api.MaxRefs)
}

func TestP62ClashIsToldAheadOfMaxRefs(t *testing.T) {
	x := &changing{"a"}
	s := counted(api.MaxRefs, x)
	x.text = "b"
	if got, e := s.Put(&changing{"a"}); got != (api.Digest{}) || e != api.ErrNodedbClash {
		t.Fatal("P6.2: Put at MaxRefs of one that clashes:", got, e)
	}
	if v, n, is := s.Get(digest.Of([]byte("a"))); v != x || n != api.MaxRefs || !is {
		t.Fatal("P6.4: Get:", v, n, is)
	}
}

func TestOrder(t *testing.T) {
	low, high := api.Digest{31: 1}, api.Digest{0: 1}
	if order(low, high) >= 0 || order(high, low) <= 0 || order(low, low) != 0 {
		t.Error("R9: the order of digests")
	}
}
