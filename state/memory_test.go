package state_test

import (
	"slices"
	"testing"

	"pergola/api"
	"pergola/node"
	"pergola/state"
)

// scribble writes over a list and its spare room.
func scribble(b []byte) {
	all := b[:cap(b)]
	for i := range all {
		all[i] ^= 0xa5
	}
}

// scribbleAll writes over all things of a list, and over the list and its spare room.
func scribbleAll(l [][]byte) {
	all := l[:cap(l)]
	for i := range all {
		scribble(all[i])
		all[i] = []byte("over")
	}
}

const spare = "\x01\x02\x03\x04 spare room"

// roomy is a copy of a text with spare room behind its end.
func roomy(text []byte) []byte { return append(slices.Clone(text), spare...)[:len(text)] }

// whole asks that a roomy copy is as it was, and its spare room too; then it writes over it.
func whole(t *testing.T, text, b []byte) {
	t.Helper()
	if got := string(b[:len(text)+len(spare)]); got != string(text)+spare {
		t.Fatalf("R5: what was handed in, %q, became %q", string(text)+spare, got)
	}
	scribble(b)
}

// rough is a state whose calls are handed memory that is written over right behind them, and whose answers are, too.
type rough struct {
	machine
	t *testing.T
}

func (r rough) Code(address uint64) ([]byte, api.Errno) {
	code, e := r.machine.Code(address)
	told := slices.Clone(code)
	scribble(code)
	return told, e
}

func (r rough) SetCode(address uint64, code []byte) api.Errno {
	r.t.Helper()
	given := roomy(code)
	e := r.machine.SetCode(address, given)
	whole(r.t, code, given)
	return e
}

func (r rough) Codes() [][]byte {
	l := r.machine.Codes()
	var told [][]byte
	for _, code := range l {
		told = append(told, slices.Clone(code))
	}
	scribbleAll(l)
	return told
}

func TestR5WritingOverEverything(t *testing.T) {
	for seed := range uint32(4) {
		overAll(t, func(t *testing.T, b both) {
			b.s = rough{b.s, t}
			d := &dice{seed + 1000}
			for range 150 {
				b.step(d, edges()[:4], edges()[:3])
			}
			b.all(edges(), edges()[:3])
			b.all(edges(), edges()[:3])
		})
	}
}

// What one answer is told as is seen in no other one, earlier or later, nor in the source.
func TestR5WritingOverACode(t *testing.T) {
	f := fullOf(someWorlds()["many"])
	s, u := state.Open(f), state.Open(f)
	s.SetCode(77, []byte("set"))
	for _, address := range append(edges(), 77) {
		want, e := s.Code(address)
		if e != api.OK {
			continue
		}
		text := string(want)
		for range 3 {
			got, _ := s.Code(address)
			other, _ := u.Code(address)
			if string(got) != text || address != 77 && string(other) != text {
				t.Fatalf("R5: Code(%d) = %q, %q, not %q", address, got, other, text)
			}
			scribble(got)
			_ = append(got, "behind"...)
			scribble(other)
			if string(want) != text {
				t.Fatalf("R5: writing over a code is seen in an earlier answer: %q", want)
			}
		}
		if code, _ := f.Code(name(text)); address != 77 && string(code) != text {
			t.Fatalf("R5: writing over a code is seen at the source: %q", code)
		}
	}
}

// The source tells its own memory: what a state tells is none of it.
func TestR5WritingOverACodeOfTheSource(t *testing.T) {
	o := newOwn()
	o.account(1, api.Account{Code: name("c"), Storage: node.EmptyRoot()})
	o.codes[name("c")] = []byte("source")
	s := state.New[*tree](o)
	earlier, _ := s.Code(1)
	code, _ := s.Code(1)
	scribble(code)
	if string(o.codes[name("c")]) != "source" || string(earlier) != "source" {
		t.Error("R5: writing over a code is seen at the source, or in an earlier answer")
	}
	scribble(o.codes[name("c")])
	if string(earlier) != "source" {
		t.Error("R5: what the source writes is seen in an earlier answer")
	}
}

func TestR5WritingOverCodes(t *testing.T) {
	s := state.Open(state.NewFull())
	for i, code := range someCodes() {
		s.SetCode(uint64(i), []byte(code))
	}
	earlier := s.Codes()
	want := texts(earlier)
	l := s.Codes()
	for i, b := range l {
		scribble(b)
		_ = append(b, "behind"...)
		if !slices.Equal(texts(l[i+1:]), want[i+1:]) {
			t.Fatalf("R5: writing over a code is seen in another one: %q", l[i+1:])
		}
	}
	scribbleAll(l)
	if !slices.Equal(texts(earlier), want) || !slices.Equal(texts(s.Codes()), want) {
		t.Fatal("R5: writing over Codes is seen in another answer")
	}
	for i, code := range someCodes() {
		if got, _ := s.Code(uint64(i)); string(got) != code {
			t.Fatalf("R5: writing over Codes is seen: Code(%d) = %q", i, got)
		}
	}
}

// What a full source is handed, and what it tells.
func TestR5AFullSource(t *testing.T) {
	for what, w := range someWorlds() {
		f := fullOf(w)
		for _, code := range append(someCodes(), "more") {
			given := roomy([]byte(code))
			f.Learn(given)
			f.Learn(given)
			whole(t, []byte(code), given)
		}
		g := f.Clone()
		earlier := f.Texts()
		want := texts(earlier)
		if !slices.Equal(want, textsOf(w, append(someCodes(), "more"))) {
			t.Fatalf("R5: %s: writing over what was learned is seen: %x", what, want)
		}
		for range 2 {
			for _, code := range append(someCodes(), "more") {
				got, e := f.Code(name(code))
				if string(got) != code || e != api.OK {
					t.Fatalf("R5: %s: Code = %q, not %q", what, got, code)
				}
				scribble(got)
				_ = append(got, "behind"...)
			}
			l := f.Texts()
			for i, b := range l {
				scribble(b)
				_ = append(b, "behind"...)
				if !slices.Equal(texts(l[i+1:]), want[i+1:]) {
					t.Fatalf("R5: %s: writing over a text is seen in another one: %x", what, l[i+1:])
				}
			}
			scribbleAll(l)
		}
		for name, l := range map[string][][]byte{"an earlier answer": earlier, "a later one": f.Texts(), "a clone's": g.Texts()} {
			if !slices.Equal(texts(l), want) {
				t.Fatalf("R5: %s: writing over Texts is seen in %s", what, name)
			}
		}
		both{t, state.Open(f), newPlain(w)}.all(edges(), edges())
	}
}

// R6: the same calls tell the same again, whatever was asked between that touches nothing.
func TestR6SameCallsSameAnswers(t *testing.T) {
	for what, w := range someWorlds() {
		for seed := range uint32(5) {
			var roots []api.Digest
			for range 4 {
				b := both{t, state.Open(fullOf(w)), newPlain(w)}
				d := &dice{seed}
				for range 60 {
					b.step(d, edges(), edges())
					b.s.Mark()
					b.s.Touched()
					b.s.Codes()
					b.s.Back(b.s.Mark())
				}
				root, _ := b.s.Commit()
				roots = append(roots, root)
			}
			if len(slices.Compact(roots)) != 1 {
				t.Fatalf("R6: %s: the roots are %x", what, roots)
			}
		}
	}
}
