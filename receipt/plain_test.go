package receipt_test

import (
	"bytes"
	"encoding/binary"
	"encoding/hex"
	"math/big"
	"slices"
	"strings"

	"pergola/api"
	"pergola/digest"
	"pergola/trie"
)

// The chapter worked out on bytes as they stand, without items: what the package is held against.

const (
	m        = 1<<64 - 1
	leastInt = -1 << 63
	mostInt  = 1<<63 - 1
)

// mays tells of each Status that there is whether a receipt of it may have a Result, and whether it may have a Made.
func mays() []struct{ result, made bool } {
	l := make([]struct{ result, made bool }, 10)
	l[0].result, l[0].made = true, true
	l[1].result = true
	return l
}

func plainRight(r api.Receipt) bool {
	if r.Status < 0 || r.Status >= len(mays()) {
		return false
	}
	may := mays()[r.Status]
	return (may.result || r.Result == 0) && (may.made || r.Made == 0)
}

// plainWord tells a word's eight bytes without the noughts ahead.
func plainWord(n uint64) []byte {
	return bytes.TrimLeft(binary.BigEndian.AppendUint64(nil, n), "\x00")
}

// plainText is for a text of at most 55 bytes, plainList for a list with a body of at most 255.
func plainText(b []byte) []byte {
	if len(b) == 1 && b[0] < 128 {
		return bytes.Clone(b)
	}
	return append([]byte{128 + byte(len(b))}, b...)
}

func plainList(l ...[]byte) []byte {
	body := slices.Concat(l...)
	if len(body) > 55 {
		return append([]byte{248, byte(len(body))}, body...)
	}
	return append([]byte{192 + byte(len(body))}, body...)
}

// plainOf writes a list of words, whatever they are.
func plainOf(l ...uint64) []byte {
	var texts [][]byte
	for _, n := range l {
		texts = append(texts, plainText(plainWord(n)))
	}
	return plainList(texts...)
}

func plainEncode(r api.Receipt) []byte {
	return plainOf(uint64(r.Status), r.Gas, r.Result, r.Made)
}

// plainDecode takes whatever seems to stand there, and asks whether a receipt of this is written so.
func plainDecode(b []byte) (api.Receipt, bool) {
	if len(b) < 5 {
		return api.Receipt{}, false
	}
	var l [4]uint64
	rest := b[1:]
	for i := range l {
		l[i], rest = plainNext(rest)
	}
	if l[0] > 9 {
		return api.Receipt{}, false
	}
	r := api.Receipt{Status: int(l[0]), Gas: l[1], Result: l[2], Made: l[3]}
	if !plainRight(r) || !bytes.Equal(plainEncode(r), b) {
		return api.Receipt{}, false
	}
	return r, true
}

// plainNext tells the word that bytes seem to begin with, and what is behind it.
func plainNext(b []byte) (uint64, []byte) {
	if len(b) == 0 {
		return 0, nil
	}
	size := 1
	if b[0] >= 128 {
		size = int(b[0]) - 128
		b = b[1:]
	}
	size = min(size, len(b), 8)
	n := uint64(0)
	for _, c := range b[:size] {
		n = n<<8 | uint64(c)
	}
	return n, b[size:]
}

// plainRoot puts each encoding's digest into a trie, the last one first.
func plainRoot(l []api.Receipt) (api.Digest, bool) {
	t := trie.New()
	for i, r := range slices.Backward(l) {
		if !plainRight(r) {
			return api.Digest{}, false
		}
		d := digest.Of(plainEncode(r))
		if e := t.Put(binary.BigEndian.AppendUint64(nil, uint64(i)), d[:]); e != api.OK {
			panic(e)
		}
	}
	return t.Root(), true
}

// plainGas adds up without a bound.
func plainGas(l []api.Receipt) (uint64, bool) {
	sum := new(big.Int)
	for _, r := range l {
		sum.Add(sum, new(big.Int).SetUint64(r.Gas))
	}
	if !sum.IsUint64() {
		return 0, false
	}
	return sum.Uint64(), true
}

func unhex(s string) []byte {
	b, err := hex.DecodeString(strings.ReplaceAll(s, " ", ""))
	if err != nil {
		panic(err)
	}
	return b
}
