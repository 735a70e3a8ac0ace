package tx_test

import (
	"bytes"
	"encoding/binary"
	"encoding/hex"
	"math/big"
	"slices"
	"strings"

	"pergola/api"
	"pergola/digest"
)

// The chapter worked out on bytes as they stand, without items: what the package is held against.

const m = 1<<64 - 1

// The things of a transaction's list, in their order.
const things = 9

// wordThings are the first of them: From, Nonce, Gas, Price, To, Value.
const wordThings = 6

// placesOf tells where these words stand in a transaction.
func placesOf(t *api.Tx) [wordThings]*uint64 {
	return [wordThings]*uint64{&t.From, &t.Nonce, &t.Gas, &t.Price, &t.To, &t.Value}
}

func with(t api.Tx, place int, n uint64) api.Tx {
	*placesOf(&t)[place] = n
	return t
}

// same takes a nil list for an empty one.
func same(a, b api.Tx) bool {
	for i := range wordThings {
		if *placesOf(&a)[i] != *placesOf(&b)[i] {
			return false
		}
	}
	return a.Make == b.Make && slices.Equal(a.Input, b.Input) && bytes.Equal(a.Code, b.Code)
}

func plainRight(t api.Tx) bool {
	switch {
	case len(t.Input) > 8, len(t.Code) > 256:
		return false
	case t.Make && t.To != 0, t.Make && len(t.Input) != 0:
		return false
	case !t.Make && len(t.Code) != 0:
		return false
	}
	return true
}

// plainWord tells a word's eight bytes without the noughts ahead.
func plainWord(n uint64) []byte {
	return bytes.TrimLeft(binary.BigEndian.AppendUint64(nil, n), "\x00")
}

func plainText(b []byte) []byte {
	if len(b) == 1 && b[0] < 128 {
		return bytes.Clone(b)
	}
	return append(plainHead(128, len(b)), b...)
}

func plainList(l ...[]byte) []byte {
	body := slices.Concat(l...)
	return append(plainHead(192, len(body)), body...)
}

func plainHead(first byte, n int) []byte {
	if n < 56 {
		return []byte{first + byte(n)}
	}
	length := plainWord(uint64(n))
	return append([]byte{first + 55 + byte(len(length))}, length...)
}

// plainParts are the bytes of the things of a transaction's list, be it Right or not.
func plainParts(t api.Tx) [][]byte {
	var parts, input [][]byte
	for _, n := range placesOf(&t) {
		parts = append(parts, plainText(plainWord(*n)))
	}
	for _, n := range t.Input {
		input = append(input, plainText(plainWord(n)))
	}
	mark := []byte{0x80}
	if t.Make {
		mark = []byte{1}
	}
	return append(parts, plainList(input...), mark, plainText(t.Code))
}

func plainEncode(t api.Tx) []byte { return plainList(plainParts(t)...) }

// plainDecode takes whatever seems to stand there, and asks whether the transaction of this is written so.
func plainDecode(b []byte) (api.Tx, bool) {
	parts := plainSplit(plainBody(b))
	if len(parts) != things {
		return api.Tx{}, false
	}
	var t api.Tx
	for i, n := range placesOf(&t) {
		*n = plainRead(plainBody(parts[i]))
	}
	for _, part := range plainSplit(plainBody(parts[6])) {
		t.Input = append(t.Input, plainRead(plainBody(part)))
	}
	t.Make = len(plainBody(parts[7])) > 0
	t.Code = bytes.Clone(plainBody(parts[8]))
	if !plainRight(t) || !bytes.Equal(plainEncode(t), b) {
		return api.Tx{}, false
	}
	return t, true
}

// plainRead tells the word of the last eight bytes.
func plainRead(b []byte) uint64 {
	return binary.BigEndian.Uint64(append(make([]byte, 8), b...)[len(b):])
}

// plainEnds tells from where to where the body seems to stand of what b begins with.
func plainEnds(b []byte) (from, to int) {
	if len(b) == 0 || b[0] < 128 {
		return 0, min(1, len(b))
	}
	n, k := int(b[0]%64), 0
	if n > 55 {
		n, k = 0, n-55
		for _, c := range b[1:min(1+k, len(b))] {
			n = min(n*256+int(c), len(b))
		}
	}
	return min(1+k, len(b)), min(1+k+n, len(b))
}

func plainBody(b []byte) []byte {
	from, to := plainEnds(b)
	return b[from:to]
}

// plainSplit tells the things that seem to stand one behind the other.
func plainSplit(b []byte) [][]byte {
	var all [][]byte
	for len(b) > 0 {
		_, to := plainEnds(b)
		all = append(all, b[:to])
		b = b[to:]
	}
	return all
}

func plainLeast(t api.Tx) uint64 {
	least := uint64(100)
	for range t.Code {
		least += 2
	}
	for range t.Input {
		least += 4
	}
	return least
}

func plainFee(t api.Tx) (uint64, bool) {
	fee := new(big.Int).Mul(new(big.Int).SetUint64(t.Gas), new(big.Int).SetUint64(t.Price))
	if !fee.IsUint64() {
		return 0, false
	}
	return fee.Uint64(), true
}

func plainMade(from, nonce uint64) uint64 {
	d := digest.Of(binary.BigEndian.AppendUint64(binary.BigEndian.AppendUint64(nil, from), nonce))
	return binary.BigEndian.Uint64(d[:])
}

func unhex(s string) []byte {
	b, err := hex.DecodeString(strings.ReplaceAll(s, " ", ""))
	if err != nil {
		panic(err)
	}
	return b
}
