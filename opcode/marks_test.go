package opcode_test

import (
	"bytes"
	"slices"
	"testing"

	"pergola/api"
	"pergola/opcode"
)

func TestP142MarksAtTheEdges(t *testing.T) {
	for code, want := range map[string][]int{
		"":                                 nil,
		"42":                               {0},
		"42 42 42":                         {0, 1, 2},
		"00 01 08":                         nil,
		"42 20 42 42":                      {0, 3},
		"20 42":                            nil,
		"20 42 20 42 42":                   {4},
		"20 20 42":                         {2},
		"21 42":                            {1},
		"21 42 42":                         nil,
		"21 42 42 42":                      {3},
		"27 42 42 42 42 42 42 42":          {1, 2, 3, 4, 5, 6, 7},
		"27 42 42 42 42 42 42 42 42":       nil,
		"27 42 42 42 42 42 42 42 42 42":    {9},
		"26 42 42 42 42 42 42":             {1, 2, 3, 4, 5, 6},
		"42 27 42 42":                      {0, 2, 3},
		"27 21 42 42 42":                   {4},
		"28 42":                            {1},
		"1f 42":                            {1},
		"31":                               nil,
		"31 42":                            nil,
		"31 42 42":                         {2},
		"32 42":                            nil,
		"32 42 42":                         {2},
		"42 31":                            {0},
		"42 32":                            {0},
		"30 42":                            {1},
		"33 42":                            {1},
		"ff 42":                            {1},
		"ff ff 42 ff 42":                   {2, 4},
		"80 42 81 42":                      {1, 3},
		"22 00 00 42 42 25 42 42 42 42 42": {4, 6, 7, 8, 9, 10},
	} {
		if got := opcode.Marks(unhex(code)); !slices.Equal(got, want) {
			t.Errorf("P14.2: Marks(%s) = %v, not %v", code, got, want)
		}
	}
}

func TestP142MarksBehindEachByte(t *testing.T) {
	for op, o := range plainTable {
		for n := range 12 {
			code := append([]byte{byte(op)}, bytes.Repeat([]byte{api.OpMark}, n)...)
			own := o.Behind
			if own > n {
				own = 0
			}
			var want []int
			for i := range code {
				if i > own || i == 0 && op == api.OpMark {
					want = append(want, i)
				}
			}
			if got := opcode.Marks(code); !slices.Equal(got, want) {
				t.Errorf("P14.2: Marks(%x) = %v, not %v", code, got, want)
			}
		}
	}
}

func TestP142MarksOfEachCode(t *testing.T) {
	for _, code := range codes() {
		if got, want := opcode.Marks(code), plainMarks(code); !slices.Equal(got, want) {
			t.Fatalf("P14.2: Marks(%x) = %v, not %v", code, got, want)
		}
	}
}

// No limit stands at Marks: a code that is longer than any that is kept has its pieces, too.
func TestP142MarksOfALongCode(t *testing.T) {
	code := bytes.Repeat([]byte{0x42, 0x20, 0x42, 0x27}, 5000)
	if got, want := opcode.Marks(code), plainMarks(code); !slices.Equal(got, want) || len(want) == 0 {
		t.Errorf("P14.2: Marks of a long code has %d places, not %d", len(got), len(want))
	}
}

func TestP146MarksRiseAndAreMarks(t *testing.T) {
	told := 0
	for _, code := range codes() {
		last := -1
		for _, at := range opcode.Marks(code) {
			if at <= last || at >= len(code) || code[at] != api.OpMark {
				t.Fatalf("P14.6: Marks(%x) = %v", code, opcode.Marks(code))
			}
			last = at
			told++
		}
	}
	if told == 0 {
		t.Error("P14.6: no code has a mark")
	}
}
