package state

import (
	"maps"
	"testing"

	"pergola/api"
	"pergola/digest"
)

// Nobody has two texts of one digest for a test: here a digest is made up.

func toldOf(s shelf, d api.Digest) string {
	code, _ := s.first(d)
	return string(code)
}

func TestTheFirstOfSeveral(t *testing.T) {
	s, d := shelf{}, api.Digest{1}
	if _, ok := s.first(d); ok {
		t.Error("a code that nobody laid in")
	}
	s.add(d, []byte("one"))
	s.add(d, []byte("two"))
	s.add(d, []byte("one"))
	s.add(api.Digest{2}, []byte("other"))
	if toldOf(s, d) != "one" || len(s[d]) != 2 || len(s.all()) != 3 {
		t.Error("codes of one digest:", s)
	}
	if toldOf(s, api.Digest{2}) != "other" || toldOf(s, api.Digest{3}) != "" {
		t.Error("codes of other digests:", s)
	}
}

// Shelves that share a list do not see what is laid in at the other.
func TestShelvesApart(t *testing.T) {
	s, d := shelf{}, api.Digest{1}
	for _, code := range []string{"a", "b", "c", "d", "e"} {
		s.add(d, []byte(code))
		c := maps.Clone(s)
		s.add(d, []byte(code+"s"))
		c.add(d, []byte(code+"c"))
		n := len(s[d])
		if len(c[d]) != n || string(s[d][n-1]) != code+"s" || string(c[d][n-1]) != code+"c" {
			t.Fatalf("shelves: %q, %q", s[d], c[d])
		}
	}
}

// P13.3: of several codes that were set and have one digest the first one is told, until it is taken back.
func TestP133TheFirstOfSeveralThatWereSet(t *testing.T) {
	s := Open(NewFull())
	d := digest.Of([]byte("two"))
	s.codes.add(d, []byte("one"))
	s.SetCode(1, []byte("two"))
	if code, e := s.Code(1); string(code) != "one" || e != api.OK {
		t.Errorf("P13.3: Code = %q, %d", code, e)
	}
	if l := s.Codes(); len(l) != 2 || string(l[0]) != "one" || string(l[1]) != "two" {
		t.Errorf("P13.7: Codes = %q", l)
	}
	s.Back(0)
	if l := s.Codes(); len(l) != 1 || string(l[0]) != "one" {
		t.Errorf("P13.7: Codes = %q", l)
	}
}

// P13.8: of several codes that were learned and have one digest the first one is told; Texts tells all.
func TestP138TheFirstOfSeveralThatWereLearned(t *testing.T) {
	f := NewFull()
	d := digest.Of([]byte("two"))
	f.codes.add(d, []byte("one"))
	g := f.Clone()
	if f.Learn([]byte("two")) != d {
		t.Error("P13.8: Learn")
	}
	if code, e := f.Code(d); string(code) != "one" || e != api.OK {
		t.Errorf("P13.8: Code = %q, %d", code, e)
	}
	if n, m := len(f.Texts()), len(g.Texts()); n != 4 || m != 3 {
		t.Error("P13.8: Texts:", n, m)
	}
	// What has the digest of no bytes is none, whatever was learned.
	f.codes.add(digest.Of(nil), []byte("other"))
	if code, e := f.Code(digest.Of(nil)); len(code) != 0 || e != api.OK {
		t.Errorf("P13.8: Code of EmptyCode = %q, %d", code, e)
	}
}
