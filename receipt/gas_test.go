package receipt_test

import (
	"slices"
	"testing"

	"pergola/api"
	"pergola/receipt"
)

// used are receipts that used so much gas each. They are not all Right: Gas asks for nothing else.
func used(l ...uint64) []api.Receipt {
	var all []api.Receipt
	for i, gas := range l {
		all = append(all, ended(i%13-1, gas, uint64(i), m-uint64(i)))
	}
	return all
}

func TestP183Gas(t *testing.T) {
	half := uint64(1) << 63
	for _, c := range []struct {
		l    []uint64
		want uint64
		ok   bool
	}{
		{nil, 0, true},
		{[]uint64{0}, 0, true},
		{[]uint64{0, 0, 0}, 0, true},
		{[]uint64{100}, 100, true},
		{[]uint64{100, 100, 100}, 300, true},
		{[]uint64{m}, m, true},
		{[]uint64{m, 0}, m, true},
		{[]uint64{0, m, 0, 0}, m, true},
		{[]uint64{m - 1, 1}, m, true},
		{[]uint64{half, half - 1}, m, true},
		{[]uint64{half - 1, half - 1, 1}, m, true},
		{[]uint64{1 << 62, 1 << 62, 1 << 62, 1<<62 - 1}, m, true},
		{[]uint64{m, 1}, 0, false},
		{[]uint64{1, m}, 0, false},
		{[]uint64{m, 0, 0, 1}, 0, false},
		{[]uint64{half, half}, 0, false},
		{[]uint64{half - 1, half - 1, 2}, 0, false},
		{[]uint64{1 << 62, 1 << 62, 1 << 62, 1 << 62}, 0, false},
		{[]uint64{m, m}, 0, false},
		{[]uint64{m, m, 2}, 0, false},
		{[]uint64{m, 1, 0}, 0, false},
		{[]uint64{m, 1, 1, 1, 1}, 0, false},
		{[]uint64{1, m, 5, 7}, 0, false},
		{[]uint64{half, half, 100, 100}, 0, false},
		{[]uint64{half, half, half, half}, 0, false},
		{[]uint64{m, m, m, m, 4}, 0, false},
	} {
		if n, ok := receipt.Gas(used(c.l...)); n != c.want || ok != c.ok {
			t.Errorf("P18.3: Gas of %v = %d %v, not %d %v", c.l, n, ok, c.want, c.ok)
		}
	}
	if n, ok := receipt.Gas([]api.Receipt{}); n != 0 || !ok {
		t.Errorf("P18.3: Gas of none = %d %v", n, ok)
	}
}

func TestP183GasOfEachTwo(t *testing.T) {
	for _, a := range edges() {
		for _, b := range edges() {
			l := used(a, b)
			want, wantOK := plainGas(l)
			if n, ok := receipt.Gas(l); n != want || ok != wantOK {
				t.Fatalf("P18.3: Gas of %d and %d = %d %v", a, b, n, ok)
			}
		}
	}
}

// What else a receipt has is not asked for, be it Right or not.
func TestP183GasAsksForGasAlone(t *testing.T) {
	for _, r := range shapes() {
		if n, ok := receipt.Gas([]api.Receipt{r}); n != r.Gas || !ok {
			t.Fatalf("P18.3: Gas of %+v = %d %v", r, n, ok)
		}
		if n, ok := receipt.Gas([]api.Receipt{{Gas: 7}, r, {Gas: m}}); n != 0 || ok {
			t.Fatalf("P18.3: Gas of 7, %+v, and the most = %d %v", r, n, ok)
		}
	}
}

func TestP183GasOfMany(t *testing.T) {
	l := make([]api.Receipt, 1<<20)
	for i := range l {
		l[i].Gas = 1<<44 - 1
	}
	if n, ok := receipt.Gas(l); n != m-1<<20+1 || !ok {
		t.Errorf("P18.3: Gas of many = %d %v", n, ok)
	}
	l = append(l, api.Receipt{Gas: 1<<20 - 1})
	if n, ok := receipt.Gas(l); n != m || !ok {
		t.Errorf("P18.3: Gas of many that fill a word = %d %v", n, ok)
	}
	l = append(l, api.Receipt{Gas: 1}, api.Receipt{})
	if n, ok := receipt.Gas(l); n != 0 || ok {
		t.Errorf("P18.3: Gas of many and one more = %d %v", n, ok)
	}
}

func TestP184GasDoesNotHangOnTheOrder(t *testing.T) {
	die := roll(18)
	some := []uint64{0, 1, 2, 100, 1 << 32, 1 << 62, 1<<62 - 1, 1 << 63, 1<<63 - 1, m - 1, m}
	filled, left := 0, 0
	for range 3000 {
		row := make([]uint64, die(8))
		for i := range row {
			// Most rows are of small things alone: a sum of great ones leaves 64 bits soon.
			row[i] = some[die(len(some))%(2+die(len(some)-1))]
		}
		want, wantOK := plainGas(used(row...))
		for range 5 {
			if n, ok := receipt.Gas(used(row...)); n != want || ok != wantOK {
				t.Fatalf("P18.4: Gas of %v = %d %v, not %d %v", row, n, ok, want, wantOK)
			}
			k := die(len(row) + 1)
			row = slices.Concat(row[k:], row[:k])
			slices.Reverse(row[:die(len(row)+1)])
		}
		if wantOK {
			filled++
		} else {
			left++
		}
	}
	if filled == 0 || left == 0 {
		t.Errorf("P18.4: %d sums were told, %d were not", filled, left)
	}
}
