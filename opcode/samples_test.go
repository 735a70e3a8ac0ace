package opcode_test

import (
	"bytes"
	"fmt"
	"slices"
	"strings"
)

// firsts are bytes of each kind: operations without bytes of their own, with one, with several, and bytes that are none.
func firsts() []byte {
	return []byte{0x00, 0x01, 0x08, 0x20, 0x21, 0x22, 0x26, 0x27, 0x28, 0x30, 0x31, 0x32, 0x33, 0x42, 0x51, 0x81, 0x82, 0xff}
}

// codes are of no bytes to some more than MaxCode: all of one and two bytes, operations that are cut off at each byte, pushes with and without noughts ahead.
func codes() [][]byte {
	var every []byte
	for op := range 256 {
		every = append(every, byte(op))
	}
	all := append(rows(2, every...), rows(3, firsts()...)...)
	all = append(all, rows(6, 0x00, 0x22, 0x42)...)
	for _, op := range firsts() {
		for n := range 10 {
			for _, fill := range []byte{0x00, 0x01, 0x42, 0x27, 0xff} {
				body := bytes.Repeat([]byte{fill}, n)
				all = append(all, slices.Concat([]byte{op}, body), slices.Concat([]byte{0x42, op}, body, []byte{0x42}))
				for i := range body {
					turned := bytes.Clone(body)
					turned[i] ^= 0x42
					all = append(all, slices.Concat([]byte{op}, turned), slices.Concat([]byte{op}, turned, []byte{0x42, 0x42}))
				}
			}
		}
	}
	next := roll(14)
	for _, n := range []int{3, 7, 8, 9, 10, 31, 100, 247, 248, 249, 254, 255, 256, 257, 258, 300, 1000} {
		for _, op := range firsts() {
			all = append(all, bytes.Repeat([]byte{op}, n), append(make([]byte, n-1), op), append(bytes.Repeat([]byte{0x42}, n-2), op, 0x42))
		}
		for range 50 {
			code, some := make([]byte, n), make([]byte, n)
			for i := range code {
				code[i] = byte(next(256))
				some[i] = firsts()[next(len(firsts()))]
			}
			all = append(all, code, some)
		}
	}
	return all
}

// vocabulary is what texts are made of: words of statements, numbers at each edge, and what is neither.
func vocabulary() []string {
	all := []string{"byte", "0", "1", "7", "42", "127", "128", "254", "255", "256", "257", "999", "00", "01", "007", "0255",
		"+1", "-1", "+0", "-0", "1.0", "1e2", "0x1f", "1_0", "1,0", "٣", "١", "1\x00", "\x001", "1\t", "\r1", "18446744073709551614", "18446744073709551615", "18446744073709551616", "18446744073709551617",
		"99999999999999999999", "100000000000000000000", "018446744073709551615",
		"push0", "push9", "push10", "push01", "push-1", "push+1", "push1.", "push11", "push18", "push88", "pushOne", "pushx", "push:", "push/", "PUSH", "Push", "push\x00", "pushpush", "push256",
		"Add", "ADD", "ad", "adds", "add0", "add1", "a", "d", "jum", "jumpi", "jumpif1", "jumpiff", "call1", "byte1", "Byte", "bytes", "byt", "dup0", "dup1", "swap1", "stop0", "nop", "halt",
		"add\tadd", "\tadd", "add\t", "add\r", "\radd", "add\x00", "\x00", "\x00add", "\t", "\r", "\v", "\f", "\u00a0", "\u0085", "\u2003", "add\u00a0add", "äöü", "ａｄｄ", "add\xff", "\xff", "\xc3", "\x80", "\xe2\x80", "\xf0\x9f\x8c\xbf", "\xed\xa0\x80", "\u200b", "\ufeff", "\ufffd", "add,", ",", ";", "#", "\"add\"", "-", "+"}
	for _, o := range plainTable {
		if o.Word != "" && !slices.Contains(all, o.Word) {
			all = append(all, o.Word)
		}
	}
	for size := 1; size <= 8; size++ {
		all = append(all, fmt.Sprintf("push%d", size))
		most := ^uint64(0) >> (64 - 8*size)
		for _, n := range []uint64{most - 1, most, most + 1, most + 2} {
			if text := fmt.Sprint(n); !slices.Contains(all, text) {
				all = append(all, text)
			}
		}
	}
	return all
}

// statements are such as each have their bytes.
func statements() []string {
	all := []string{"add", "stop", "mark", "jumpif", "revert", "push 0", "push 1", "push 255", "push 256", "push 65535", "push 65536", "push 18446744073709551615",
		"push1 0", "push1 66", "push2 1", "push2 256", "push3 5", "push4 4294967295", "push5 66", "push7 1", "push8 0", "push8 1", "push8 18446744073709551615",
		"dup 0", "dup 66", "dup 255", "swap 0", "swap 255", "byte 0", "byte 32", "byte 39", "byte 49", "byte 66", "byte 255"}
	return all
}

func blanks() []string {
	return []string{" ", "\n", "  ", "\n\n", " \n", "\n ", " \n \n\n  "}
}

// texts are of each word, each two and many threes of the vocabulary, with blanks between, ahead and behind; and long ones.
func texts() []string {
	all := append([]string{""}, blanks()...)
	next := roll(41)
	blank := func() string { return blanks()[next(len(blanks()))] }
	perhaps := func() string { return append(blanks(), "", "", "")[next(len(blanks())+3)] }
	some := vocabulary()
	for _, a := range some {
		all = append(all, a)
		for _, b := range blanks() {
			all = append(all, b+a, a+b, b+a+b)
		}
		for _, b := range some {
			all = append(all, a+" "+b, perhaps()+a+blank()+b+perhaps(), a+" 1 "+b, "push "+a+" "+b, "add\n"+a+"\n"+b)
		}
	}
	for range 100000 {
		s := perhaps()
		for range 1 + next(6) {
			if next(3) == 0 {
				s += some[next(len(some))] + blank()
			} else {
				s += statements()[next(len(statements()))] + blank()
			}
		}
		all = append(all, s, strings.TrimRight(s, " \n"))
	}
	return append(all, longTexts()...)
}

// longTexts are about MaxCode bytes of code, each with something behind it.
func longTexts() []string {
	var all []string
	for n := 246; n <= 258; n++ {
		for _, blank := range []string{" ", "\n", " \n"} {
			s := strings.Repeat("add"+blank, n)
			all = append(all, s, s[:len(s)-len(blank)], blank+s)
			for _, end := range append(statements(), "Add", "push", "push 1 Add", "push 01", "push 01 Add", "push8 1 Add", "byte 1 push9", "byte 256", "add add add Add") {
				all = append(all, s+end, s+end+blank, s+end+blank+"add", s+end+blank+"Add", s+end+blank+"push")
			}
		}
	}
	return all
}
