package opcode_test

import (
	"bytes"
	"fmt"
	"strings"
	"testing"

	"pergola/api"
	"pergola/opcode"
)

func TestP144PrintAtTheEdges(t *testing.T) {
	for code, want := range map[string]string{
		"":                              "",
		"00":                            "stop",
		"01 02":                         "add sub",
		"20 00 21 00 05 27 42":          "push 0 push2 5 byte 39 mark",
		"20 00":                         "push 0",
		"20 01":                         "push 1",
		"20 ff":                         "push 255",
		"21 01 00":                      "push 256",
		"21 ff ff":                      "push 65535",
		"21 00 ff":                      "push2 255",
		"21 00 00":                      "push2 0",
		"22 00 01 00":                   "push3 256",
		"22 01 00 00":                   "push 65536",
		"23 00 00 00 00":                "push4 0",
		"23 01 00 00 00":                "push 16777216",
		"24 00 ff ff ff ff":             "push5 4294967295",
		"25 00 00 00 00 00 42":          "push6 66",
		"26 00 00 00 00 00 00 00":       "push7 0",
		"26 01 00 00 00 00 00 00":       "push 281474976710656",
		"27 00 00 00 00 00 00 00 00":    "push8 0",
		"27 00 00 00 00 00 00 00 01":    "push8 1",
		"27 00 ff ff ff ff ff ff ff":    "push8 72057594037927935",
		"27 01 02 03 04 05 06 07 08":    "push 72623859790382856",
		"27 ff ff ff ff ff ff ff ff":    "push 18446744073709551615",
		"20":                            "byte 32",
		"27":                            "byte 39",
		"21 00":                         "byte 33 stop",
		"21 20":                         "byte 33 byte 32",
		"27 00 00 00 00 00 00 00":       "byte 39 stop stop stop stop stop stop stop",
		"27 26 00 00 00 00 00 00":       "byte 39 byte 38 stop stop stop stop stop stop",
		"27 25 00 00 00 00 00 42":       "byte 39 push6 66",
		"31":                            "byte 49",
		"32":                            "byte 50",
		"01 31":                         "add byte 49",
		"31 00":                         "dup 0",
		"31 ff":                         "dup 255",
		"32 00":                         "swap 0",
		"32 31":                         "swap 49",
		"32 32 32":                      "swap 50 byte 50",
		"ff":                            "byte 255",
		"09 28 1f 33 82":                "byte 9 byte 40 byte 31 byte 51 byte 130",
		"28 42":                         "byte 40 mark",
		"80 81 70 71 60 61 62 63 64 65": "return revert call result self caller value input balance gas",
		"66 50 51 40 41 42 30 08 07 06": "number load store jump jumpif mark pop not equal less",
		"05 04 03":                      "mod div mul",
		"20 20 21 21 21 31 31 32 32 20": "push 32 push 8481 dup 49 swap 50 byte 32",
	} {
		if got, e := opcode.Print(unhex(code)); got != want || e != api.OK {
			t.Errorf("P14.4: Print(%s) = %q %d, not %q", code, got, e, want)
		}
	}
}

func TestP144PrintOfEachByteAlone(t *testing.T) {
	for op, o := range plainTable {
		want := o.Word
		if o.Word == "" || o.Behind > 0 {
			want = fmt.Sprintf("byte %d", op)
		}
		if got, e := opcode.Print([]byte{byte(op)}); got != want || e != api.OK {
			t.Errorf("P14.4: Print(%x) = %q %d, not %q", op, got, e, want)
		}
	}
}

func TestP144PrintOfMaxCodeBytesAndMore(t *testing.T) {
	for _, op := range firsts() {
		for _, n := range []int{255, 256} {
			code := bytes.Repeat([]byte{op}, n)
			want, _ := plainPrint(code)
			if got, e := opcode.Print(code); got != want || e != api.OK {
				t.Errorf("P14.4: Print of %d times %x = %.60q %d", n, op, got, e)
			}
		}
		for _, n := range []int{257, 258, 300, 512, 70000} {
			if got, e := opcode.Print(bytes.Repeat([]byte{op}, n)); got != "" || e != api.ErrOpcodeLong {
				t.Errorf("P14.4: Print of %d times %x = %.60q %d, not ErrOpcodeLong", n, op, got, e)
			}
		}
	}
}

func TestP144PrintOfEachCode(t *testing.T) {
	for _, code := range codes() {
		got, e := opcode.Print(code)
		if want, wantE := plainPrint(code); got != want || e != wantE {
			t.Fatalf("P14.4: Print(%x) = %q %d, not %q %d", code, got, e, want, wantE)
		}
	}
}

func TestP145AssembleOfPrintIsTheCode(t *testing.T) {
	for _, code := range codes() {
		s, e := opcode.Print(code)
		if e != api.OK {
			continue
		}
		if got, at, e := opcode.Assemble(s); !bytes.Equal(got, code) || at != 0 || e != api.OK {
			t.Fatalf("P14.5: Assemble(Print(%x)) = %x %d %d", code, got, at, e)
		}
	}
}

func TestP145PrintOfWhatWasAssembledIsAssembledAlike(t *testing.T) {
	for _, s := range texts() {
		code, _, e := opcode.Assemble(s)
		if e != api.OK {
			continue
		}
		text, e := opcode.Print(code)
		if got, _, e2 := opcode.Assemble(text); e != api.OK || e2 != api.OK || !bytes.Equal(got, code) {
			t.Fatalf("P14.5: Assemble(%q) = %x, whose text %q is of %x", s, code, text, got)
		}
	}
}

func TestP145TwoTextsWithABlankBetween(t *testing.T) {
	some := append(statements(), "", " ", "\n", " add", "add ", "push 1 dup 0\nmark", " \nbyte 39\n ", "byte 33 byte 1", strings.Repeat("add ", 128), strings.Repeat("push 7\n", 64), strings.Repeat("mark ", 255), strings.Repeat("mark ", 256))
	for _, a := range some {
		for _, b := range some {
			first, _, e1 := opcode.Assemble(a)
			second, _, e2 := opcode.Assemble(b)
			if e1 != api.OK || e2 != api.OK {
				t.Fatalf("P14.5: Assemble(%.40q), Assemble(%.40q) are refused: %d %d", a, b, e1, e2)
			}
			want := append(first, second...)
			for _, blank := range blanks() {
				both, _, e := opcode.Assemble(a + blank + b)
				if len(want) > api.MaxCode {
					if len(both) != 0 || e != api.ErrOpcodeLong {
						t.Fatalf("P14.5: Assemble(%.40q and %.40q) = %x %d, not ErrOpcodeLong", a, b, both, e)
					}
				} else if !bytes.Equal(both, want) || e != api.OK {
					t.Fatalf("P14.5: Assemble(%.40q and %.40q) = %x %d, not %x", a, b, both, e, want)
				}
			}
		}
	}
}
