package accounts_test

import (
	"bytes"
	"encoding/binary"
	"encoding/hex"
	"strings"

	"pergola/api"
	"pergola/node"
)

// The chapter worked out on bytes as they stand, without items: what the package is held against.

const m = 1<<64 - 1

// plainWord tells a word's eight bytes without the noughts ahead.
func plainWord(n uint64) []byte {
	return bytes.TrimLeft(binary.BigEndian.AppendUint64(nil, n), "\x00")
}

// plainRead tells the word that is written so.
func plainRead(b []byte) (uint64, bool) {
	if len(b) > 8 {
		return 0, false
	}
	var full [8]byte
	copy(full[8-len(b):], b)
	n := binary.BigEndian.Uint64(full[:])
	if !bytes.Equal(plainWord(n), b) {
		return 0, false
	}
	return n, true
}

// plainText is for a text of at most 55 bytes.
func plainText(b []byte) []byte {
	if len(b) == 1 && b[0] < 128 {
		return []byte{b[0]}
	}
	return append([]byte{128 + byte(len(b))}, b...)
}

func plainList(l ...[]byte) []byte {
	body := bytes.Join(l, nil)
	switch n := len(body); {
	case n < 56:
		return append([]byte{192 + byte(n)}, body...)
	case n < 256:
		return append([]byte{248, byte(n)}, body...)
	default:
		return append([]byte{249, byte(n / 256), byte(n)}, body...)
	}
}

func plainEncode(a api.Account) []byte {
	return plainList(plainText(plainWord(a.Nonce)), plainText(plainWord(a.Balance)), plainText(a.Code[:]), plainText(a.Storage[:]))
}

// plainDecode takes the pieces from where they would stand, and asks whether the account of these is written so.
func plainDecode(b []byte) (api.Account, bool) {
	if len(b) < 70 || len(b) > 86 {
		return api.Account{}, false
	}
	front, back := b[2:len(b)-66], b[len(b)-66:]
	a := api.Account{Code: api.Digest(back[1:33]), Storage: api.Digest(back[34:66])}
	a.Nonce, front = plainNext(front)
	a.Balance, _ = plainNext(front)
	if !bytes.Equal(plainEncode(a), b) {
		return api.Account{}, false
	}
	return a, true
}

// plainNext tells the word that bytes seem to begin with, and what is behind it.
func plainNext(b []byte) (uint64, []byte) {
	if len(b) == 0 {
		return 0, nil
	}
	size := 0
	if b[0] >= 128 {
		size = int(b[0]) - 128
		b = b[1:]
	} else {
		size = 1
	}
	size = min(size, len(b))
	n, _ := plainRead(b[:size])
	return n, b[size:]
}

// edges are the words at which a byte more, or another form of a text, begins, and their neighbours.
func edges() []uint64 {
	l := []uint64{0, 1, 5, 127, 128, 129, 192, 255, 256, 1000, 0x8000, 0x7f00, 0xff00ff, 6364136223846793005, m - 1, m}
	for k := range 8 {
		p := uint64(1) << (8 * k)
		l = append(l, p-1, p, p+1, 127*p, 128*p, 255*p)
	}
	return l
}

// digests are some of any bytes: zero ones ahead, behind and all, and what looks like a head.
func digests() []api.Digest {
	l := []api.Digest{{}, {31: 1}, {0: 1}, {0: 0x80}, {0: 0xa0, 31: 0xa0}, node.EmptyCode(), node.EmptyRoot()}
	for _, c := range []byte{1, 0x7f, 0x80, 0xa0, 0xc0, 0xf8, 0xff} {
		l = append(l, api.Digest(bytes.Repeat([]byte{c}, 32)))
	}
	var rising api.Digest
	for i := range rising {
		rising[i] = byte(i)
	}
	return append(l, rising)
}

func account(nonce, balance uint64, code, storage api.Digest) api.Account {
	return api.Account{Nonce: nonce, Balance: balance, Code: code, Storage: storage}
}

// samples are accounts with each two of the edges, and each two of the digests.
func samples() []api.Account {
	l := []api.Account{{}, account(0, 0, node.EmptyCode(), node.EmptyRoot())}
	some := digests()
	for i, nonce := range edges() {
		for k, balance := range edges() {
			l = append(l, account(nonce, balance, some[i%len(some)], some[(i+k)%len(some)]))
		}
	}
	for _, code := range some {
		for _, storage := range some {
			l = append(l, account(0, 0, code, storage), account(5, 1000, code, storage))
		}
	}
	return l
}

// few are accounts whose encodings are of each length there is.
func few() []api.Account {
	l := []api.Account{{}, account(0, 0, node.EmptyCode(), node.EmptyRoot()), account(5, 1000, digests()[14], digests()[4])}
	for k := range 8 {
		p := uint64(1) << (8 * k)
		l = append(l, account(127*p, 128*p, digests()[k], digests()[2*k]), account(255*p, p, api.Digest{1}, api.Digest{2}))
	}
	return append(l, account(m, m, api.Digest{0xff}, api.Digest{}), account(m, 0, api.Digest{}, api.Digest{0xff}))
}

func unhex(s string) []byte {
	b, err := hex.DecodeString(strings.ReplaceAll(s, " ", ""))
	if err != nil {
		panic(err)
	}
	return b
}
