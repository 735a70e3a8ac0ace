package nibbles_test

import (
	"bytes"
	"testing"

	"pergola/nibbles"
)

func TestP41RightAtTheEdges(t *testing.T) {
	for _, p := range [][]byte{nil, {}, {0}, {15}, {0, 15}, {15, 15, 15}, {1, 2, 3, 4}} {
		if !nibbles.Right(p) {
			t.Errorf("P4.1: Right(%x) = false", p)
		}
	}
	for _, p := range [][]byte{{16}, {255}, {0, 16}, {16, 0}, {1, 2, 16}, {1, 128, 3}} {
		if nibbles.Right(p) {
			t.Errorf("P4.1: Right(%x) = true", p)
		}
	}
}

func TestP41RightOfEachPath(t *testing.T) {
	for n := range 256 {
		if got := nibbles.Right([]byte{byte(n)}); got != (n < 16) {
			t.Errorf("P4.1: Right(%x) = %v", n, got)
		}
	}
	for _, p := range rightPaths() {
		if !nibbles.Right(p) {
			t.Fatalf("P4.1: Right(%x) = false", p)
		}
	}
	for _, p := range wrongPaths() {
		if nibbles.Right(p) {
			t.Fatalf("P4.1: Right(%x) = true", p)
		}
	}
}

func TestP41NibblesOfKeys(t *testing.T) {
	for key, want := range map[string]string{
		"":                 "",
		"\x00":             "00",
		"\x0f":             "0f",
		"\xf0":             "f0",
		"\xff":             "ff",
		"\x1f\xa0":         "1fa0",
		"\x00\x01":         "0001",
		"ab":               "6162",
		"\x12\x34\x56\x78": "12345678",
	} {
		if got := nibbles.Of([]byte(key)); !bytes.Equal(got, path(want)) {
			t.Errorf("P4.1: Of(%x) = %x, not %s", key, got, want)
		}
		if got, ok := nibbles.Key(path(want)); string(got) != key || !ok {
			t.Errorf("P4.1: Key(%s) = %x %v, not %x", want, got, ok, key)
		}
	}
}

func TestP41OfEachKey(t *testing.T) {
	for _, key := range keys() {
		if got := nibbles.Of(key); !bytes.Equal(got, plainOf(key)) {
			t.Fatalf("P4.1: Of(%x) = %x, not %x", key, got, plainOf(key))
		}
	}
}

func TestP41KeyRefusesWhatIsNoKeysPath(t *testing.T) {
	for _, p := range [][]byte{{0}, {15}, {1, 15, 10}, {16}, {16, 0}, {0, 16}, {16, 16}, {255, 0}, {1, 2, 3, 16}, {16, 2, 3, 4}, {1, 2, 16}} {
		if key, ok := nibbles.Key(p); len(key) != 0 || ok {
			t.Errorf("P4.1: Key(%x) = %x %v, not none and false", p, key, ok)
		}
	}
	for _, none := range [][]byte{nil, {}} {
		if key, ok := nibbles.Key(none); len(key) != 0 || !ok {
			t.Errorf("P4.1: Key of no nibbles = %x %v, not none and true", key, ok)
		}
	}
}

func TestP41KeyOfEachPath(t *testing.T) {
	for _, p := range append(rightPaths(), wrongPaths()...) {
		key, ok := nibbles.Key(p)
		if want, wantOK := plainKey(p); !bytes.Equal(key, want) || ok != wantOK {
			t.Fatalf("P4.1: Key(%x) = %x %v, not %x %v", p, key, ok, want, wantOK)
		}
	}
}

func TestP45KeysThereAndBack(t *testing.T) {
	for _, key := range keys() {
		if got, ok := nibbles.Key(nibbles.Of(key)); !bytes.Equal(got, key) || !ok {
			t.Fatalf("P4.5: Key(Of(%x)) = %x %v", key, got, ok)
		}
	}
	for _, p := range append(rightPaths(), wrongPaths()...) {
		if key, ok := nibbles.Key(p); ok && !bytes.Equal(nibbles.Of(key), p) {
			t.Fatalf("P4.5: Of(Key(%x)) = %x", p, nibbles.Of(key))
		}
	}
}

func TestP45PathsAreOrderedAsTheirKeys(t *testing.T) {
	some := rows(3, 0, 1, 15, 16, 0x7f, 0x80, 0xf0, 0xff)
	for _, a := range some {
		for _, b := range some {
			p, q := nibbles.Of(a), nibbles.Of(b)
			if got := nibbles.Less(p, q); got != plainLess(a, b) {
				t.Fatalf("P4.5: Less(Of(%x), Of(%x)) = %v", a, b, got)
			}
		}
	}
}

// pairs are what Common and Less are asked of: bytes above 15 stand among them, too.
func pairs() [][2][]byte {
	var all [][2][]byte
	some := append(rows(3, 0, 1, 15, 16, 128, 255), manyBytes()...)
	for _, p := range some {
		for _, q := range some {
			all = append(all, [2][]byte{p, q})
		}
	}
	for _, p := range manyBytes() {
		for i := range p {
			q := bytes.Clone(p)
			q[i] ^= 0x80
			all = append(all, [2][]byte{p, q}, [2][]byte{p, p[:i]}, [2][]byte{p[:i], p})
		}
	}
	return all
}

func TestP44CommonAndLessAtTheEdges(t *testing.T) {
	for _, k := range []struct {
		p, q   []byte
		common int
		less   bool
	}{
		{nil, nil, 0, false},
		{nil, []byte{}, 0, false},
		{nil, []byte{1}, 0, true},
		{nil, []byte{0}, 0, true},
		{[]byte{0}, nil, 0, false},
		{[]byte{1}, []byte{1}, 1, false},
		{[]byte{1, 2, 3}, []byte{1, 2, 4}, 2, true},
		{[]byte{1, 2, 4}, []byte{1, 2, 3}, 2, false},
		{[]byte{1, 2}, []byte{1, 2, 3}, 2, true},
		{[]byte{1, 2, 3}, []byte{1, 2}, 2, false},
		{[]byte{1, 2}, []byte{1, 2, 0}, 2, true},
		{[]byte{2}, []byte{1, 5}, 0, false},
		{[]byte{1, 5}, []byte{2}, 0, true},
		{[]byte{1, 9, 9}, []byte{2, 9, 9}, 0, true},
		{[]byte{1, 2, 9}, []byte{1, 3, 9}, 1, true},
		{[]byte{16, 200}, []byte{16, 255}, 1, true},
		{[]byte{255}, []byte{15}, 0, false},
		{[]byte{127}, []byte{128}, 0, true},
		{[]byte{16}, []byte{0}, 0, false},
		{[]byte{255, 255}, []byte{255, 255}, 2, false},
	} {
		if n := nibbles.Common(k.p, k.q); n != k.common {
			t.Errorf("P4.4: Common(%x, %x) = %d, not %d", k.p, k.q, n, k.common)
		}
		if less := nibbles.Less(k.p, k.q); less != k.less {
			t.Errorf("P4.4: Less(%x, %x) = %v", k.p, k.q, less)
		}
	}
}

func TestP44CommonAndLessOfEachPair(t *testing.T) {
	for _, k := range pairs() {
		p, q := k[0], k[1]
		if n := nibbles.Common(p, q); n != plainCommon(p, q) {
			t.Fatalf("P4.4: Common(%x, %x) = %d, not %d", p, q, n, plainCommon(p, q))
		}
		if less := nibbles.Less(p, q); less != plainLess(p, q) {
			t.Fatalf("P4.4: Less(%x, %x) = %v", p, q, less)
		}
	}
}

func TestP46CommonIsAlikeAndNoMore(t *testing.T) {
	for _, k := range pairs() {
		p, q := k[0], k[1]
		n := nibbles.Common(p, q)
		if n < 0 || n > len(p) || n > len(q) || !bytes.Equal(p[:n], q[:n]) {
			t.Fatalf("P4.6: Common(%x, %x) = %d", p, q, n)
		}
		if n < len(p) && n < len(q) && p[n] == q[n] {
			t.Fatalf("P4.6: behind Common(%x, %x) = %d they go on alike", p, q, n)
		}
		if turned := nibbles.Common(q, p); turned != n {
			t.Fatalf("P4.6: Common(%x, %x) = %d, but the other way round %d", p, q, n, turned)
		}
	}
}

func TestP46OfTwoUnlikePathsOneIsLess(t *testing.T) {
	for _, k := range pairs() {
		p, q := k[0], k[1]
		pq, qp := nibbles.Less(p, q), nibbles.Less(q, p)
		if bytes.Equal(p, q) && (pq || qp) {
			t.Fatalf("P4.6: Less(%x, %x) of equal ones", p, q)
		}
		if !bytes.Equal(p, q) && pq == qp {
			t.Fatalf("P4.6: Less(%x, %x) = %v, both ways round", p, q, pq)
		}
	}
}
