package bulk_test

import (
	"slices"
	"testing"

	"pergola/api"
	"pergola/bulk"
)

// scribble writes over a list and its spare room.
func scribble(b []byte) {
	all := b[:cap(b)]
	for i := range all {
		all[i] ^= 0xa5
	}
}

const spare = "\x01\x02\x03\x04 spare room"

// roomy is a copy of a text with spare room behind its end.
func roomy(text string) []byte { return append([]byte(text), spare...)[:len(text)] }

// whole asks that a roomy copy is as it was, and its spare room too.
func whole(t *testing.T, text string, b []byte) {
	t.Helper()
	if len(b) != len(text) {
		t.Fatalf("R5: of what was handed in, %q, there are %d bytes", text, len(b))
	}
	if got := string(b[:len(text)+len(spare)]); got != text+spare {
		t.Fatalf("R5: what was handed in, %q, became %q", text+spare, got)
	}
}

func TestR5WhatIsHandedInStaysAsItIs(t *testing.T) {
	keys, values := append(edgeKeys(), wrongKeys()...), append(edgeValues(), wrongValues()...)
	for turn := range values {
		b := bulk.New()
		var l []pair
		var kept [][]byte
		for i, text := range keys {
			q := pair{text, values[(i+turn)%len(values)]}
			key, value := roomy(q.key), roomy(q.value)
			b.Add(key, value)
			b.Root()
			l, kept = append(l, q), append(kept, key, value)
		}
		for i, q := range l {
			whole(t, q.key, kept[2*i])
			whole(t, q.value, kept[2*i+1])
		}
	}
}

// What was handed in may be written over as soon as it was taken: also one memory for all keys and values.
func TestR5WhatIsTakenIsCopied(t *testing.T) {
	room := make([]byte, 1000)
	for _, l := range append([][]pair{longRow(7, 100)}, rowsOf(someRows())...) {
		for _, ask := range []bool{false, true} {
			b, p := bulk.New(), &plain{}
			for _, q := range l {
				key, value := append(room[:0], q.key...), append(room[500:500], q.value...)
				if got, want := b.Add(key, value), p.add(q.key, q.value); got != want {
					t.Fatalf("R5: behind writing over %v: Add%v = %d, not %d", *p, q, got, want)
				}
				scribble(room)
				if ask {
					alike(t, b, *p)
				}
			}
			alike(t, b, *p)
		}
	}
}

func rowsOf(m map[string][]pair) [][]pair {
	var rows [][]pair
	for _, l := range m {
		rows = append(rows, l)
	}
	return rows
}

// Writing over the last key moves no order: what was taken counts.
func TestR5TheLastKeyIsCopied(t *testing.T) {
	for _, over := range []string{"a", "z"} {
		b := bulk.New()
		key := []byte("m")
		b.Add(key, []byte("\x01"))
		copy(key, over)
		for _, c := range []struct {
			key string
			e   api.Errno
		}{{"b", api.ErrBulkOrder}, {"m", api.ErrBulkOrder}, {"n", api.OK}} {
			if e := b.Add([]byte(c.key), []byte("\x02")); e != c.e {
				t.Errorf("R5: behind m, written over with %s: Add(%s) = %d", over, c.key, e)
			}
		}
	}
}

// One memory for a key and its value.
func TestR5KeyAndValueInOneMemory(t *testing.T) {
	room := []byte("ab and more")
	b := bulk.New()
	b.Add(room[:1], room[:4])
	b.Add(room[:2], room[:2])
	b.Add(room[:4], room[1:])
	scribble(room)
	alike(t, b, plain{{"a", "ab a"}, {"ab", "ab"}, {"ab a", "b and more"}})
}

func roomyPairs(l []pair) []api.Pair {
	some := make([]api.Pair, 0, len(l)+2)
	for _, q := range l {
		some = append(some, api.Pair{Key: roomy(q.key), Value: roomy(q.value)})
	}
	return append(some, api.Pair{Key: []byte("behind"), Value: []byte("it")})[:len(l)]
}

func TestR5PairsStayAsTheyAre(t *testing.T) {
	rows := append(rowsOf(someRows()), []pair{{"b", "\x01"}, {"a", "\x01"}}, []pair{{"a", ""}}, []pair{{full + "k", most + "V"}})
	for _, l := range rows {
		given := roomyPairs(l)
		first, _ := bulk.Root(given)
		for i, q := range l {
			whole(t, q.key, given[i].Key)
			whole(t, q.value, given[i].Value)
		}
		behind := given[:len(l)+1][len(l)]
		if string(behind.Key) != "behind" || string(behind.Value) != "it" {
			t.Fatalf("R5: behind the list's end there is %v", behind)
		}
		if again, _ := bulk.Root(given); again != first {
			t.Fatalf("R6: Root(%v) = %x, then %x", l, first, again)
		}
		for _, q := range given {
			scribble(q.Key)
			scribble(q.Value)
		}
		rooted(t, l...)
	}
}

func TestR5TextsStayAsTheyAre(t *testing.T) {
	texts := append(edgeKeys(), edgeValues()...)
	given := make([][]byte, 0, len(texts)+1)
	for _, text := range texts {
		given = append(given, roomy(text))
	}
	behind := append(given, []byte("behind"))
	first, _ := bulk.List(given)
	for i, text := range texts {
		whole(t, text, given[i])
	}
	if string(behind[len(texts)]) != "behind" {
		t.Fatalf("R5: behind the list's end there is %q", behind[len(texts)])
	}
	if first != plainList(given) {
		t.Fatal("P8.3: List of texts with spare room")
	}
	for _, text := range given {
		scribble(text)
	}
	if again, _ := bulk.List(given); again == first || again != plainList(given) {
		t.Error("R5: List of texts that were written over")
	}
}

// R4: a nil list and an empty one are the same.
func TestR4NilAndEmpty(t *testing.T) {
	for _, nothing := range [][]byte{nil, {}, make([]byte, 0, 9)} {
		b := bulk.New()
		if e := b.Add([]byte("a"), nothing); e != api.ErrTrieValue {
			t.Errorf("R4: a value of nothing: %d", e)
		}
		if e := b.Add(nothing, []byte("\x01")); e != api.OK {
			t.Errorf("R4: a key of nothing: %d", e)
		}
		if e := b.Add(nothing, []byte("\x01")); e != api.ErrBulkOrder {
			t.Errorf("R4: a key of nothing, again: %d", e)
		}
		alike(t, b, plain{{"", "\x01"}})
		want, _ := plainRoot([]pair{{"", "\x01"}})
		if d, e := bulk.Root([]api.Pair{{Key: nothing, Value: []byte("\x01")}}); d != want || e != api.OK {
			t.Errorf("R4: Root of a key of nothing: %x, %d", d, e)
		}
	}
	one, _ := bulk.Root(nil)
	two, _ := bulk.Root([]api.Pair{})
	three, _ := bulk.Root(slices.Grow([]api.Pair(nil), 4))
	if one != two || one != three {
		t.Error("R4: Root of no pairs")
	}
	four, _ := bulk.List([][]byte{nil, {}})
	five, _ := bulk.List([][]byte{{}, nil})
	if four != five {
		t.Error("R4: List of empty texts")
	}
}
