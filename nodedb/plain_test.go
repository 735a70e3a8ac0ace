package nodedb_test

import (
	"bytes"
	"fmt"
	"slices"
	"testing"

	"pergola/api"
	"pergola/digest"
	"pergola/nodedb"
)

// bag is the chapter worked out plainly: each reference is a text of its own, in the order in which they were laid in.
type bag struct {
	room  int
	texts []string
}

func name(text string) api.Digest { return digest.Of([]byte(text)) }

func (b *bag) count(text string) int {
	n := 0
	for _, x := range b.texts {
		if x == text {
			n++
		}
	}
	return n
}

// different are the texts that are there, in their digests' order.
func (b *bag) different() []string {
	var l []string
	for _, x := range b.texts {
		if !slices.Contains(l, x) {
			l = append(l, x)
		}
	}
	slices.SortFunc(l, func(x, y string) int {
		p, q := name(x), name(y)
		return bytes.Compare(p[:], q[:])
	})
	return l
}

func (b *bag) put(text string) (api.Digest, api.Errno) {
	if b.count(text) == 0 && len(b.different()) >= max(b.room, 0) {
		return api.Digest{}, api.ErrNodedbFull
	}
	b.texts = append(b.texts, text)
	return name(text), api.OK
}

func (b *bag) drop(text string) (bool, api.Errno) {
	i := slices.Index(b.texts, text)
	if i < 0 {
		return false, api.ErrNodedbNone
	}
	b.texts = slices.Delete(slices.Clone(b.texts), i, i+1)
	return b.count(text) == 0, api.OK
}

// step is a call: a Put of a text, or a Drop of its digest.
type step struct {
	drop bool
	text string
}

func (x step) String() string {
	if x.drop {
		return fmt.Sprintf("Drop(%q)", x.text)
	}
	return fmt.Sprintf("Put(%q)", x.text)
}

func steps(texts ...string) []step {
	var l []step
	for _, x := range texts {
		l = append(l, step{false, x}, step{true, x})
	}
	return l
}

// do calls the store and the bag alike, and holds their answers against each other.
func do(t *testing.T, s *nodedb.Store[nodedb.Text], b *bag, x step) {
	t.Helper()
	if x.drop {
		gone, e := s.Drop(name(x.text))
		if wantGone, wantE := b.drop(x.text); gone != wantGone || e != wantE {
			t.Fatalf("P6.3: %v = %v, %d, not %v, %d", x, gone, e, wantGone, wantE)
		}
		return
	}
	d, e := s.Put(nodedb.Text(x.text))
	if wantD, wantE := b.put(x.text); d != wantD || e != wantE {
		t.Fatalf("P6.2: %v = %x, %d, not %x, %d", x, d, e, wantD, wantE)
	}
}

// alike asks the store all that can be asked, and holds it against the bag.
func alike(t *testing.T, s *nodedb.Store[nodedb.Text], b *bag, texts ...string) {
	t.Helper()
	want := b.different()
	for _, x := range slices.Concat(texts, want) {
		v, n, is := s.Get(name(x))
		there := b.count(x) > 0
		if n != b.count(x) || is != there || there && string(v) != x || !there && v != "" {
			t.Fatalf("P6.4: Get of %q = %q, %d, %v, where there are %d", x, v, n, is, b.count(x))
		}
	}
	if s.Len() != len(want) {
		t.Fatalf("P6.4: Len = %d, not %d", s.Len(), len(want))
	}
	list := s.List()
	if len(list) != len(want) {
		t.Fatalf("P6.4: List has %d, not %d", len(list), len(want))
	}
	for i, x := range want {
		if list[i] != name(x) {
			t.Fatalf("P6.4: List has %x at %d, not %x", list[i], i, name(x))
		}
	}
}

// sequences are all rows of n of these steps.
func sequences(n int, of []step) [][]step {
	l := [][]step{nil}
	for range n {
		var longer [][]step
		for _, row := range l {
			for _, x := range of {
				longer = append(longer, append(slices.Clone(row), x))
			}
		}
		l = longer
	}
	return l
}
