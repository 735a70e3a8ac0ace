package words_test

import (
	"testing"

	"pergola/words"
)

type sum struct {
	name  string
	do    func(a, b uint64) (uint64, bool)
	plain func(a, b uint64) (uint64, bool)
}

func sums() []sum {
	return []sum{{"Add", words.Add, plainAdd}, {"Sub", words.Sub, plainSub}, {"Mul", words.Mul, plainMul}}
}

func TestP31SumsAtTheEdges(t *testing.T) {
	for _, k := range []struct {
		name string
		do   func(a, b uint64) (uint64, bool)
		a, b uint64
		want uint64
		ok   bool
	}{
		{"Add", words.Add, 0, 0, 0, true},
		{"Add", words.Add, 2, 3, 5, true},
		{"Add", words.Add, m, 0, m, true},
		{"Add", words.Add, m, 1, 0, false},
		{"Add", words.Add, m, m, 0, false},
		{"Add", words.Add, m - 1, 1, m, true},
		{"Add", words.Add, m - 1, 2, 0, false},
		{"Add", words.Add, 1 << 63, 1<<63 - 1, m, true},
		{"Add", words.Add, 1 << 63, 1 << 63, 0, false},
		{"Sub", words.Sub, 0, 0, 0, true},
		{"Sub", words.Sub, 5, 3, 2, true},
		{"Sub", words.Sub, 5, 5, 0, true},
		{"Sub", words.Sub, 5, 6, 0, false},
		{"Sub", words.Sub, 0, 1, 0, false},
		{"Sub", words.Sub, 0, m, 0, false},
		{"Sub", words.Sub, m - 1, m, 0, false},
		{"Sub", words.Sub, m, m, 0, true},
		{"Sub", words.Sub, m, 0, m, true},
		{"Mul", words.Mul, 0, 0, 0, true},
		{"Mul", words.Mul, 0, m, 0, true},
		{"Mul", words.Mul, m, 0, 0, true},
		{"Mul", words.Mul, 6, 7, 42, true},
		{"Mul", words.Mul, 1, m, m, true},
		{"Mul", words.Mul, 2, m, 0, false},
		{"Mul", words.Mul, m, m, 0, false},
		{"Mul", words.Mul, 1 << 32, 1 << 31, 1 << 63, true},
		{"Mul", words.Mul, 1 << 32, 1 << 32, 0, false},
		{"Mul", words.Mul, 1<<32 - 1, 1<<32 + 1, m, true},
		{"Mul", words.Mul, 1<<32 + 1, 1<<32 + 1, 0, false},
		{"Mul", words.Mul, 3, m / 3, m, true},
		{"Mul", words.Mul, 3, m/3 + 1, 0, false},
		{"Mul", words.Mul, 10, m / 10, m - 5, true},
		{"Mul", words.Mul, 10, m/10 + 1, 0, false},
	} {
		if n, ok := k.do(k.a, k.b); n != k.want || ok != k.ok {
			t.Errorf("P3.1: %s(%d, %d) = %d %v, not %d %v", k.name, k.a, k.b, n, ok, k.want, k.ok)
		}
	}
}

func TestP31SumsAreThoseOfWholeNumbers(t *testing.T) {
	for _, k := range sums() {
		for _, a := range edges() {
			for _, b := range edges() {
				n, ok := k.do(a, b)
				if want, wantOK := k.plain(a, b); n != want || ok != wantOK {
					t.Fatalf("P3.1: %s(%d, %d) = %d %v, not %d %v", k.name, a, b, n, ok, want, wantOK)
				}
			}
		}
	}
}

func TestP31TheLastSumThatFits(t *testing.T) {
	for _, a := range edges() {
		if n, ok := words.Add(a, m-a); n != m || !ok {
			t.Errorf("P3.1: Add(%d, %d) = %d %v", a, m-a, n, ok)
		}
		if n, ok := words.Sub(a, a); n != 0 || !ok {
			t.Errorf("P3.1: Sub(%d, %d) = %d %v", a, a, n, ok)
		}
		if a == 0 {
			continue
		}
		if n, ok := words.Add(a, m-a+1); n != 0 || ok {
			t.Errorf("P3.1: Add(%d, %d) = %d %v", a, m-a+1, n, ok)
		}
		if n, ok := words.Sub(a-1, a); n != 0 || ok {
			t.Errorf("P3.1: Sub(%d, %d) = %d %v", a-1, a, n, ok)
		}
		if n, ok := words.Mul(a, m/a); n != m-m%a || !ok {
			t.Errorf("P3.1: Mul(%d, %d) = %d %v", a, uint64(m)/a, n, ok)
		}
		if n, ok := words.Mul(a, m/a+1); a > 1 && (n != 0 || ok) {
			t.Errorf("P3.1: Mul(%d, %d) = %d %v", a, m/a+1, n, ok)
		}
	}
}

func TestP36SubTakesBackWhatAddGave(t *testing.T) {
	for _, a := range edges() {
		for _, b := range edges() {
			n, ok := words.Add(a, b)
			if !ok {
				continue
			}
			if k, ok := words.Sub(n, b); k != a || !ok {
				t.Fatalf("P3.6: Sub(%d, %d) = %d %v, not %d", n, b, k, ok, a)
			}
			if k, ok := words.Sub(n, a); k != b || !ok {
				t.Fatalf("P3.6: Sub(%d, %d) = %d %v, not %d", n, a, k, ok, b)
			}
		}
	}
}

func TestP36AddAndMulDoNotTellWhichIsFirst(t *testing.T) {
	for _, k := range []sum{sums()[0], sums()[2]} {
		for _, a := range edges() {
			for _, b := range edges() {
				n, ok := k.do(a, b)
				if turned, turnedOK := k.do(b, a); n != turned || ok != turnedOK {
					t.Fatalf("P3.6: %s(%d, %d) = %d %v, but the other way round %d %v", k.name, a, b, n, ok, turned, turnedOK)
				}
			}
		}
	}
}
