package opcode_test

import (
	"bytes"
	"fmt"
	"strings"
	"testing"

	"pergola/api"
	"pergola/opcode"
)

func taken(t *testing.T, s, want string) {
	t.Helper()
	if code, at, e := opcode.Assemble(s); !bytes.Equal(code, unhex(want)) || at != 0 || e != api.OK {
		t.Errorf("P14.3: Assemble(%.80q) = %x %d %d, not %s", s, code, at, e, want)
	}
}

func refused(t *testing.T, s string, want int, wantE api.Errno) {
	t.Helper()
	if code, at, e := opcode.Assemble(s); len(code) != 0 || at != want || e != wantE {
		t.Errorf("P14.3: Assemble(%.80q) = %x %d %d, not %d at %d", s, code, at, e, wantE, want)
	}
}

func TestP143Blanks(t *testing.T) {
	taken(t, "", "")
	taken(t, " ", "")
	taken(t, "\n", "")
	taken(t, " \n\n  \n", "")
	taken(t, "add", "01")
	taken(t, " add", "01")
	taken(t, "add ", "01")
	taken(t, "\nadd\n", "01")
	taken(t, "add sub", "01 02")
	taken(t, "add\nsub", "01 02")
	taken(t, "add  \n\n \nsub", "01 02")
	taken(t, " \n push\n0 ", "20 00")
	taken(t, "push\n\n  \n7\n\nadd", "20 07 01")
	taken(t, "  byte   1   byte   2  ", "01 02")
}

func TestP143WhatLooksLikeABlankIsNone(t *testing.T) {
	for _, c := range []string{"\t", "\r", "\x00", "\v", "\f", "\x1f", "!", "\u0085", "\u00a0", "\u2003", "\u3000", "\xa0", "\x80", "\xff", "\xe2\x80", "\ufffd"} {
		refused(t, c, 0, api.ErrOpcodeWord)
		refused(t, "add"+c+"add", 0, api.ErrOpcodeWord)
		refused(t, "add"+c, 0, api.ErrOpcodeWord)
		refused(t, c+"add", 0, api.ErrOpcodeWord)
		refused(t, "add "+c+" add", 4, api.ErrOpcodeWord)
		refused(t, "add\n"+c, 4, api.ErrOpcodeWord)
		refused(t, "push"+c+"1", 0, api.ErrOpcodeWord)
		refused(t, "push 1"+c, 5, api.ErrOpcodeNumber)
		refused(t, "push "+c+"1", 5, api.ErrOpcodeNumber)
		refused(t, "push  "+c+" 1", 6, api.ErrOpcodeNumber)
		refused(t, "dup 1"+c+"add", 4, api.ErrOpcodeNumber)
	}
	// 32 and 10 that another byte announces as its own are blanks all the same: bytes are asked, not signs.
	refused(t, "\xe2 add", 0, api.ErrOpcodeWord)
	refused(t, "add \xe2\nAdd", 4, api.ErrOpcodeWord)
	refused(t, "push \xf0 \xff", 5, api.ErrOpcodeNumber)
	// A place counts bytes.
	refused(t, "push 1 ää ", 7, api.ErrOpcodeWord)
	refused(t, "push ää", 5, api.ErrOpcodeNumber)
}

func TestP143EachByteBetweenTwoWords(t *testing.T) {
	for c := range 256 {
		s := "add" + string([]byte{byte(c)}) + "add"
		if c == 32 || c == 10 {
			taken(t, s, "01 01")
		} else {
			refused(t, s, 0, api.ErrOpcodeWord)
		}
	}
}

func TestP143EachOperationsWord(t *testing.T) {
	for op, o := range plainTable {
		switch {
		case o.Word == "":
		case o.Behind == 0:
			taken(t, o.Word, fmt.Sprintf("%02x", op))
			taken(t, o.Word+" "+o.Word, fmt.Sprintf("%02x%02x", op, op))
			refused(t, o.Word+" 1", len(o.Word)+1, api.ErrOpcodeWord)
		default:
			refused(t, o.Word, len(o.Word), api.ErrOpcodeNumber)
			refused(t, o.Word+" "+o.Word, len(o.Word)+1, api.ErrOpcodeNumber)
		}
		if o.Word == "" {
			continue
		}
		refused(t, strings.ToUpper(o.Word), 0, api.ErrOpcodeWord)
		refused(t, strings.ToUpper(o.Word[:1])+o.Word[1:]+" 1", 0, api.ErrOpcodeWord)
		refused(t, o.Word+"x", 0, api.ErrOpcodeWord)
		refused(t, "x"+o.Word, 0, api.ErrOpcodeWord)
		refused(t, o.Word+o.Word, 0, api.ErrOpcodeWord)
		refused(t, o.Word+"0 1", 0, api.ErrOpcodeWord)
		for n := 1; n < len(o.Word); n++ {
			if _, _, _, ok := plainHead(o.Word[:n]); !ok {
				refused(t, o.Word[:n], 0, api.ErrOpcodeWord)
			}
		}
	}
}

func TestP143WhatBeginsNoStatement(t *testing.T) {
	for _, s := range []string{"0", "1", "255", "x", "push0", "push9", "push10", "push01", "push11", "push18", "push+1", "push-1", "pushOne", "push:", "push/", "Push", "Push1", "PUSH", "push1x", "byte1", "bytes", "byt", "Byte", "dup0", "dup1", "swap1", "jumpi", "jumpiff", "mark0", "nop", "\"add\"", "add,", ";"} {
		refused(t, s, 0, api.ErrOpcodeWord)
		refused(t, s+" 1", 0, api.ErrOpcodeWord)
		refused(t, "push 1 "+s+" 1", 7, api.ErrOpcodeWord)
		refused(t, "add\n\n"+s, 5, api.ErrOpcodeWord)
	}
	refused(t, strings.Repeat("a", 5000), 0, api.ErrOpcodeWord)
	refused(t, "add Add", 4, api.ErrOpcodeWord)
}

func TestP143PushHasAsFewBytesAsItsNumberNeeds(t *testing.T) {
	for s, want := range map[string]string{
		"push 0":                    "20 00",
		"push 1":                    "20 01",
		"push 255":                  "20 ff",
		"push 256":                  "21 0100",
		"push 65535":                "21 ffff",
		"push 65536":                "22 010000",
		"push 16777215":             "22 ffffff",
		"push 16777216":             "23 01000000",
		"push 4294967295":           "23 ffffffff",
		"push 4294967296":           "24 0100000000",
		"push 1099511627775":        "24 ffffffffff",
		"push 1099511627776":        "25 010000000000",
		"push 281474976710655":      "25 ffffffffffff",
		"push 281474976710656":      "26 01000000000000",
		"push 72057594037927935":    "26 ffffffffffffff",
		"push 72057594037927936":    "27 0100000000000000",
		"push 72623859790382856":    "27 0102030405060708",
		"push 9223372036854775808":  "27 8000000000000000",
		"push 18446744073709551615": "27 ffffffffffffffff",
	} {
		taken(t, s, want)
	}
}

func TestP143PushOfSoManyBytes(t *testing.T) {
	for size := 1; size <= 8; size++ {
		head, word := fmt.Sprintf("%02x", 0x1f+size), fmt.Sprintf("push%d ", size)
		most := ^uint64(0) >> (64 - 8*size)
		taken(t, word+"0", head+strings.Repeat("00", size))
		taken(t, word+"1", head+strings.Repeat("00", size-1)+"01")
		taken(t, word+"66", head+strings.Repeat("00", size-1)+"42")
		taken(t, word+fmt.Sprint(most), head+strings.Repeat("ff", size))
		taken(t, word+fmt.Sprint(most>>1), head+"7f"+strings.Repeat("ff", size-1))
		taken(t, word+fmt.Sprint(most>>8+1), head+"01"+strings.Repeat("00", size-1))
		if size < 8 {
			refused(t, word+fmt.Sprint(most+1), 6, api.ErrOpcodeNumber)
		}
		refused(t, word+"18446744073709551616", 6, api.ErrOpcodeNumber)
		refused(t, word+"01", 6, api.ErrOpcodeNumber)
		refused(t, word, 6, api.ErrOpcodeNumber)
		refused(t, word[:5], 5, api.ErrOpcodeNumber)
	}
	taken(t, "push8 72623859790382856", "27 0102030405060708")
	taken(t, "push3 258", "22 000102")
}

func TestP143OneByte(t *testing.T) {
	for word, head := range map[string]string{"byte": "", "dup": "31", "swap": "32"} {
		for n := range 256 {
			taken(t, fmt.Sprintf("%s %d", word, n), fmt.Sprintf("%s%02x", head, n))
		}
		for _, n := range []string{"256", "257", "511", "512", "65536", "4294967296", "18446744073709551615", "18446744073709551616", "00", "01", "0255", "-0", "+1", "1.", "x"} {
			refused(t, word+" "+n, len(word)+1, api.ErrOpcodeNumber)
		}
		refused(t, word, len(word), api.ErrOpcodeNumber)
	}
}

func TestP143WhatIsNoNumber(t *testing.T) {
	for _, first := range []string{"push", "push1", "push8", "dup", "swap", "byte"} {
		for _, n := range []string{"00", "01", "007", "000", "+0", "+1", "-0", "-1", "1.0", "1e0", "0x1", "1_0", "1,", "a", "f", "٣", "１", "\xff", "1\x00", "\x001", "1\t", "1\r", "add", "push", "Push", "18446744073709551616", "18446744073709551617", "20000000000000000000", "100000000000000000000", "018446744073709551615", strings.Repeat("9", 3000), strings.Repeat("0", 3000)} {
			refused(t, first+" "+n, len(first)+1, api.ErrOpcodeNumber)
			refused(t, "add \n"+first+"\n\n"+n+" Add", 5+len(first)+2, api.ErrOpcodeNumber)
		}
	}
}

func TestP143TheTextEndsWhereANumberIsAskedFor(t *testing.T) {
	for _, first := range []string{"push", "push1", "push8", "dup", "swap", "byte"} {
		for _, behind := range append(blanks(), "") {
			for _, ahead := range []string{"", " ", "add ", "push 1\n", "push 5 dup 0  "} {
				s := ahead + first + behind
				refused(t, s, len(s), api.ErrOpcodeNumber)
			}
		}
	}
}

func TestP143TheFirstErrorIsTold(t *testing.T) {
	refused(t, "Add push 01", 0, api.ErrOpcodeWord)
	refused(t, "push 01 Add", 5, api.ErrOpcodeNumber)
	refused(t, "push Add", 5, api.ErrOpcodeNumber)
	refused(t, "push9 01", 0, api.ErrOpcodeWord)
	refused(t, "push 1 1", 7, api.ErrOpcodeWord)
	refused(t, "add Sub Mul", 4, api.ErrOpcodeWord)
	refused(t, "add push", 8, api.ErrOpcodeNumber)
	refused(t, "byte 256 byte 257", 5, api.ErrOpcodeNumber)
	refused(t, "byte 255 byte 257", 14, api.ErrOpcodeNumber)
}

func TestP143CodesOfMaxCodeBytesAndMore(t *testing.T) {
	adds := func(n int) string { return strings.Repeat("add ", n) }
	code := func(n int, more string) string { return strings.Repeat("01", n) + more }
	taken(t, adds(255), code(255, ""))
	taken(t, adds(256), code(256, ""))
	taken(t, adds(254)+"push 1", code(254, "2001"))
	taken(t, adds(254)+"dup 1", code(254, "3101"))
	taken(t, adds(247)+"push8 1", code(247, "270000000000000001"))
	taken(t, adds(255)+"byte 7", code(255, "07"))
	refused(t, adds(257), 1024, api.ErrOpcodeLong)
	refused(t, adds(300), 1024, api.ErrOpcodeLong)
	refused(t, " \n"+adds(257), 1026, api.ErrOpcodeLong)
	refused(t, adds(256)+"\n\nstop", 1026, api.ErrOpcodeLong)
	refused(t, adds(255)+"push 1", 1020, api.ErrOpcodeLong)
	refused(t, adds(255)+"dup 1", 1020, api.ErrOpcodeLong)
	refused(t, adds(256)+"byte 7", 1024, api.ErrOpcodeLong)
	refused(t, adds(248)+"push8 1", 992, api.ErrOpcodeLong)
	refused(t, adds(254)+"push 256", 1016, api.ErrOpcodeLong)
	refused(t, adds(247)+"push 18446744073709551615 add", 988+26, api.ErrOpcodeLong)
	// What stands behind the statement that goes beyond is not read; what is wrong in it, or ahead, is met first.
	refused(t, adds(257)+"Add", 1024, api.ErrOpcodeLong)
	refused(t, adds(256)+"push 1 Add", 1024, api.ErrOpcodeLong)
	refused(t, adds(255)+"push 1 push 01", 1020, api.ErrOpcodeLong)
	refused(t, adds(256)+"push 01", 1029, api.ErrOpcodeNumber)
	refused(t, adds(256)+"push", 1028, api.ErrOpcodeNumber)
	refused(t, adds(256)+"push ", 1029, api.ErrOpcodeNumber)
	refused(t, adds(256)+"Add", 1024, api.ErrOpcodeWord)
	refused(t, adds(256)+"Add add", 1024, api.ErrOpcodeWord)
	refused(t, "Add "+adds(257), 0, api.ErrOpcodeWord)
	refused(t, strings.Repeat("push8 0 ", 29), 28*8, api.ErrOpcodeLong)
	refused(t, strings.Repeat("add ", 1<<20), 1024, api.ErrOpcodeLong)
}

func TestP143OfEachText(t *testing.T) {
	told := map[api.Errno]int{}
	for _, s := range texts() {
		code, at, e := opcode.Assemble(s)
		want, wantAt, wantE := plainAssemble(s)
		if !bytes.Equal(code, want) || at != wantAt || e != wantE {
			t.Fatalf("P14.3: Assemble(%q) = %x %d %d, not %x %d %d", s, code, at, e, want, wantAt, wantE)
		}
		told[e]++
	}
	for _, e := range []api.Errno{api.OK, api.ErrOpcodeWord, api.ErrOpcodeNumber, api.ErrOpcodeLong} {
		if told[e] < 100 {
			t.Errorf("P14.3: %d texts alone were answered by %d", told[e], e)
		}
	}
}

func TestP143ATextOfManyBlanks(t *testing.T) {
	many := strings.Repeat(" \n", 1<<20)
	taken(t, many, "")
	taken(t, many+"push"+many+"5"+many, "20 05")
	refused(t, many+"push"+many, 2*len(many)+4, api.ErrOpcodeNumber)
}
