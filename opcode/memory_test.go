package opcode_test

import (
	"bytes"
	"slices"
	"strings"
	"testing"

	"pergola/api"
	"pergola/opcode"
)

// few are codes of each kind, short and long, and one that is too long.
func few() [][]byte {
	all := append(rows(3, firsts()...), bytes.Repeat([]byte{0x42}, 256), bytes.Repeat([]byte{0x42}, 257))
	return append(all, bytes.Repeat([]byte{0x27, 0, 0x42}, 85), unhex("27 00 00 00 00 00 00 00 05 42"), unhex("42 27 42 42 42"))
}

const spare = "\x42\x42\x42\x42\x42\x42\x42\x42\x42 spare room"

// roomy tells a copy of b with spare room behind it, and both together. The room has marks: who reads there tells them.
func roomy(b []byte) (given, all []byte) {
	all = append(bytes.Clone(b), spare...)
	return all[:len(b)], all
}

func scribble[T byte | int](b []T) {
	all := b[:cap(b)]
	for i := range all {
		all[i] ^= 0x5a
	}
}

func TestR5CodesThatAreHandedInStayAsTheyAre(t *testing.T) {
	for _, code := range few() {
		given, all := roomy(code)
		scribble(opcode.Marks(given))
		opcode.Print(given)
		if string(all) != string(code)+spare {
			t.Fatalf("R5: %x, and its spare room, became %x", code, all)
		}
	}
}

func TestR5TheSpareRoomOfACodeIsNotRead(t *testing.T) {
	for _, code := range few() {
		given, _ := roomy(code)
		if got, want := opcode.Marks(given), plainMarks(code); !slices.Equal(got, want) {
			t.Fatalf("R5: Marks(%x) = %v, not %v, with spare room", code, got, want)
		}
		got, e := opcode.Print(given)
		if want, wantE := plainPrint(code); got != want || e != wantE {
			t.Fatalf("R5: Print(%x) = %q, not %q, with spare room", code, got, want)
		}
	}
}

func TestR5WritingOverACodeIsNotSeen(t *testing.T) {
	for _, code := range few() {
		given, all := roomy(code)
		marks := opcode.Marks(given)
		s, e := opcode.Print(given)
		scribble(all)
		if !slices.Equal(marks, plainMarks(code)) {
			t.Fatalf("R5: Marks(%x) became %v", code, marks)
		}
		if want, wantE := plainPrint(code); s != want || e != wantE {
			t.Fatalf("R5: Print(%x) became %q", code, s)
		}
	}
}

func TestR5WritingOverMarksIsNotSeen(t *testing.T) {
	for _, code := range few() {
		first, second := opcode.Marks(code), opcode.Marks(code)
		scribble(first)
		if want := plainMarks(code); !slices.Equal(second, want) || !slices.Equal(opcode.Marks(code), want) {
			t.Fatalf("R5: writing over Marks(%x) is seen in other ones", code)
		}
	}
}

func TestR5WritingOverAnAssembledCodeIsNotSeen(t *testing.T) {
	some := append(statements(), strings.Join(statements(), " "), strings.Repeat("add ", 256), strings.Repeat("push8 1\n", 28))
	for _, s := range some {
		first, _, _ := opcode.Assemble(s)
		second, _, _ := opcode.Assemble(s)
		want, _, _ := plainAssemble(s)
		text, _ := opcode.Print(second)
		scribble(first)
		third, _, e := opcode.Assemble(s)
		if !bytes.Equal(second, want) || !bytes.Equal(third, want) || e != api.OK {
			t.Fatalf("R5: writing over Assemble(%.40q) is seen in other ones", s)
		}
		if again, _ := opcode.Print(third); again != text {
			t.Fatalf("R5: writing over Assemble(%.40q) is seen in Print", s)
		}
	}
	for op, want := range plainTable {
		if o, is := opcode.Of(byte(op)); o != want || is != (want.Word != "") {
			t.Errorf("R5: writing over codes is seen in Of(%x) = %+v %v", op, o, is)
		}
	}
}

func TestR6OneAnswer(t *testing.T) {
	for _, s := range []string{"", "add", "push 5 mark", "add Add", "push", strings.Repeat("add ", 257)} {
		code, at, e := opcode.Assemble(s)
		opcode.Assemble("Add")
		opcode.Print(bytes.Repeat([]byte{0x27}, 300))
		opcode.Marks(unhex("42 27 42"))
		if again, atAgain, eAgain := opcode.Assemble(s); !bytes.Equal(again, code) || atAgain != at || eAgain != e {
			t.Errorf("R6: Assemble(%.40q) = %x %d %d, then %x %d %d", s, code, at, e, again, atAgain, eAgain)
		}
	}
}

func TestR4NoCodeAtAll(t *testing.T) {
	for _, none := range [][]byte{nil, {}} {
		if marks := opcode.Marks(none); len(marks) != 0 {
			t.Errorf("R4: Marks of no bytes = %v", marks)
		}
		if s, e := opcode.Print(none); s != "" || e != api.OK {
			t.Errorf("R4: Print of no bytes = %q %d", s, e)
		}
	}
}
