package nibbles_test

import (
	"bytes"
	"encoding/hex"
	"strings"

	"pergola/api"
)

// The chapter worked out on hexadecimal text, in which a nibble is a digit: what the package is held against.

const digits = "0123456789abcdef"

// path tells the path whose digits a text has.
func path(text string) []byte {
	var p []byte
	for _, c := range text {
		p = append(p, byte(strings.IndexRune(digits, c)))
	}
	return p
}

// textOf tells the digits of a path, and whether each thing of it has one.
func textOf(p []byte) (string, bool) {
	var text strings.Builder
	for _, n := range p {
		if int(n) >= len(digits) {
			return "", false
		}
		text.WriteByte(digits[n])
	}
	return text.String(), true
}

func plainOf(key []byte) []byte { return path(hex.EncodeToString(key)) }

func plainKey(p []byte) ([]byte, bool) {
	text, ok := textOf(p)
	if !ok {
		return nil, false
	}
	key, err := hex.DecodeString(text)
	if err != nil {
		return nil, false
	}
	return key, true
}

func plainPack(p []byte, leaf bool) ([]byte, api.Errno) {
	text, ok := textOf(p)
	if !ok {
		return nil, api.ErrNibblesForm
	}
	head := "00"
	switch odd := len(p)%2 == 1; {
	case odd && leaf:
		head = "3"
	case odd:
		head = "1"
	case leaf:
		head = "20"
	}
	b, err := hex.DecodeString(head + text)
	if err != nil {
		panic(err)
	}
	return b, api.OK
}

func plainUnpack(b []byte) ([]byte, bool, api.Errno) {
	text := hex.EncodeToString(b)
	for _, head := range []string{"00", "1", "20", "3"} {
		if rest, ok := strings.CutPrefix(text, head); ok {
			return path(rest), head == "20" || head == "3", api.OK
		}
	}
	return nil, false, api.ErrNibblesForm
}

func plainCommon(p, q []byte) int {
	n := min(len(p), len(q))
	for !bytes.Equal(p[:n], q[:n]) {
		n--
	}
	return n
}

func plainLess(p, q []byte) bool { return string(p) < string(q) }

// rows are all rows of no to so many bytes, each of them one of those given.
func rows(most int, of ...byte) [][]byte {
	all := [][]byte{nil}
	last := all
	for range most {
		var next [][]byte
		for _, row := range last {
			for _, b := range of {
				next = append(next, append(bytes.Clone(row), b))
			}
		}
		all = append(all, next...)
		last = next
	}
	return all
}

func counted(n int) []byte {
	var all []byte
	for i := range n {
		all = append(all, byte(i))
	}
	return all
}

// manyBytes are rows of many bytes: of one byte alone, and of bytes that change.
func manyBytes() [][]byte {
	var all [][]byte
	for _, length := range []int{3, 4, 7, 8, 31, 32, 33, 64, 255, 256, 1000, 1001} {
		for _, fill := range []byte{0, 1, 15, 16, 0x20, 0x3f, 0x40, 0x7f, 0x80, 0xf0, 0xff} {
			all = append(all, bytes.Repeat([]byte{fill}, length))
		}
		mixed := make([]byte, length)
		for i := range mixed {
			mixed[i] = byte(i*i*7 + i*31 + length)
		}
		all = append(all, mixed)
	}
	return all
}

// keys are all of no, one and two bytes, and many of more.
func keys() [][]byte { return append(rows(2, counted(256)...), manyBytes()...) }

// rightPaths are all of no to three nibbles, and many of more.
func rightPaths() [][]byte {
	all := rows(3, counted(16)...)
	for _, long := range manyBytes() {
		p := make([]byte, len(long))
		for i, b := range long {
			p[i] = b % 16
		}
		all = append(all, p)
	}
	return all
}

// wrongPaths have at one place, or at all, what is no nibble.
func wrongPaths() [][]byte {
	var all [][]byte
	for _, wrong := range []byte{16, 17, 31, 32, 0x80, 0xf0, 0xff} {
		for _, length := range []int{1, 2, 3, 4, 5, 64, 65} {
			for i := range length {
				p := bytes.Repeat([]byte{byte(i) % 16}, length)
				p[i] = wrong
				all = append(all, p)
			}
			all = append(all, bytes.Repeat([]byte{wrong}, length))
		}
	}
	return all
}
