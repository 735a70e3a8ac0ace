package opcode_test

import (
	"bytes"
	"encoding/hex"
	"fmt"
	"math/big"
	"strings"

	"pergola/api"
	"pergola/opcode"
)

// The chapter worked out in a slow way, by a table of all 256 bytes and whole numbers without a bound: what the package is held against.

// chapter is the chapter's table, a line for each byte: byte, Word, Behind, Takes, Gives, Gas.
const chapter = `
00 stop 0 0 0 0
01 add 0 2 1 1
02 sub 0 2 1 1
03 mul 0 2 1 2
04 div 0 2 1 2
05 mod 0 2 1 2
06 less 0 2 1 1
07 equal 0 2 1 1
08 not 0 1 1 1
20 push 1 0 1 1
21 push 2 0 1 1
22 push 3 0 1 1
23 push 4 0 1 1
24 push 5 0 1 1
25 push 6 0 1 1
26 push 7 0 1 1
27 push 8 0 1 1
30 pop 0 1 0 1
31 dup 1 0 1 1
32 swap 1 0 0 1
40 jump 0 1 0 3
41 jumpif 0 2 0 3
42 mark 0 0 0 1
50 load 0 1 1 10
51 store 0 2 0 20
60 self 0 0 1 1
61 caller 0 0 1 1
62 value 0 0 1 1
63 input 0 1 1 1
64 balance 0 1 1 8
65 gas 0 0 1 1
66 number 0 0 1 1
70 call 0 4 1 40
71 result 0 0 1 1
80 return 0 1 0 0
81 revert 0 1 0 0
`

// plainTable is the chapter's table; a byte without a Word is no operation.
var plainTable = readTable()

func readTable() [256]opcode.Info {
	var all [256]opcode.Info
	for line := range strings.Lines(strings.TrimSpace(chapter)) {
		var op byte
		var o opcode.Info
		if _, err := fmt.Sscanf(line, "%x %s %d %d %d %d", &op, &o.Word, &o.Behind, &o.Takes, &o.Gives, &o.Gas); err != nil {
			panic(err)
		}
		all[op] = o
	}
	return all
}

// plainPieces cuts a code into its pieces; where an operation has all of its bytes, whole tells so.
func plainPieces(code []byte) (pieces [][]byte, whole []bool) {
	for len(code) > 0 {
		o := plainTable[code[0]]
		n, is := 1+o.Behind, o.Word != ""
		if !is || n > len(code) {
			n, is = 1, false
		}
		pieces, whole = append(pieces, code[:n]), append(whole, is)
		code = code[n:]
	}
	return pieces, whole
}

func plainMarks(code []byte) []int {
	var marks []int
	at := 0
	pieces, _ := plainPieces(code)
	for _, p := range pieces {
		if p[0] == api.OpMark {
			marks = append(marks, at)
		}
		at += len(p)
	}
	return marks
}

// plainNumber tells the bytes of a number's text, the highest first, 0 in none; false: it is not written as words are.
func plainNumber(text string) ([]byte, bool) {
	x, ok := new(big.Int).SetString(text, 10)
	if !ok || x.Sign() < 0 || x.BitLen() > 64 || x.String() != text {
		return nil, false
	}
	return x.Bytes(), true
}

type placed struct {
	word string
	at   int
}

func plainWords(s string) []placed {
	var all []placed
	for i := 0; i < len(s); {
		n := 0
		for i+n < len(s) && s[i+n] != 32 && s[i+n] != 10 {
			n++
		}
		if n > 0 {
			all = append(all, placed{s[i : i+n], i})
		}
		i += n + 1
	}
	return all
}

// plainHead tells the byte that a word stands for, as a text of none or one, and the least and the most bytes that its number has; 0 most: no number.
func plainHead(word string) (head string, least, most int, ok bool) {
	switch word {
	case "push":
		return "", 1, 8, true
	case "byte":
		return "", 1, 1, true
	}
	for op, o := range plainTable {
		text := o.Word
		if text == "push" {
			text += fmt.Sprint(o.Behind)
		}
		if o.Word != "" && text == word {
			return string([]byte{byte(op)}), o.Behind, o.Behind, true
		}
	}
	return "", 0, 0, false
}

func plainAssemble(s string) ([]byte, int, api.Errno) {
	var code []byte
	all := append(plainWords(s), placed{"", len(s)})
	for i := 0; all[i].word != ""; i++ {
		at := all[i].at
		head, least, most, ok := plainHead(all[i].word)
		if !ok {
			return nil, at, api.ErrOpcodeWord
		}
		statement := []byte(head)
		if most > 0 {
			push := all[i].word == "push"
			i++
			n, ok := plainNumber(all[i].word)
			if !ok || len(n) > most {
				return nil, all[i].at, api.ErrOpcodeNumber
			}
			n = append(make([]byte, max(0, least-len(n))), n...)
			if push {
				statement = append(statement, 0x1f+byte(len(n)))
			}
			statement = append(statement, n...)
		}
		code = append(code, statement...)
		if len(code) > 256 {
			return nil, at, api.ErrOpcodeLong
		}
	}
	return code, 0, api.OK
}

func plainPrint(code []byte) (string, api.Errno) {
	if len(code) > 256 {
		return "", api.ErrOpcodeLong
	}
	var all []string
	pieces, whole := plainPieces(code)
	for i, p := range pieces {
		o := plainTable[p[0]]
		switch n := new(big.Int).SetBytes(p[1:]); {
		case !whole[i]:
			all = append(all, "byte", fmt.Sprint(p[0]))
		case o.Word == "push" && len(p) > 2 && p[1] == 0:
			all = append(all, "push"+fmt.Sprint(len(p)-1), n.String())
		case o.Behind > 0:
			all = append(all, o.Word, n.String())
		default:
			all = append(all, o.Word)
		}
	}
	return strings.Join(all, " "), api.OK
}

func unhex(s string) []byte {
	b, err := hex.DecodeString(strings.ReplaceAll(s, " ", ""))
	if err != nil {
		panic(err)
	}
	return b
}

// roll tells numbers that look like any, the same ones each time.
func roll(seed uint64) func(n int) int {
	return func(n int) int {
		seed = seed*6364136223846793005 + 1442695040888963407
		return int(seed>>33) % n
	}
}

// rows are all rows of no to so many bytes, each of them one of those given.
func rows(most int, of ...byte) [][]byte {
	all := [][]byte{nil}
	last := all
	for range most {
		var next [][]byte
		for _, row := range last {
			for _, b := range of {
				next = append(next, append(bytes.Clone(row), b))
			}
		}
		all = append(all, next...)
		last = next
	}
	return all
}
