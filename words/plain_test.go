package words_test

import "math/big"

// The chapter worked out on whole numbers without a bound: what the package is held against.

const m = 1<<64 - 1

// edges are the words at which a sum, a byte or a digit more begins, and their neighbours.
func edges() []uint64 {
	ns := []uint64{0, 1, 2, 3, 7, 10, 99, 258, 6364136223846793005, m / 2, m / 3, m / 10, m/10 + 1, m - 1, m, 1<<32 - 1, 1 << 31, 4294967297}
	for k := range 64 {
		p := uint64(1) << k
		ns = append(ns, p-1, p, p+1)
	}
	for p := uint64(1); ; p *= 10 {
		ns = append(ns, p-1, p, p+1)
		if p > m/10 {
			return ns
		}
	}
}

func whole(n uint64) *big.Int { return new(big.Int).SetUint64(n) }

// plainWord tells x as a word, if it is one.
func plainWord(x *big.Int) (uint64, bool) {
	if x.Sign() < 0 || x.Cmp(whole(m)) > 0 {
		return 0, false
	}
	return x.Uint64(), true
}

func plainAdd(a, b uint64) (uint64, bool) { return plainWord(new(big.Int).Add(whole(a), whole(b))) }
func plainSub(a, b uint64) (uint64, bool) { return plainWord(new(big.Int).Sub(whole(a), whole(b))) }
func plainMul(a, b uint64) (uint64, bool) { return plainWord(new(big.Int).Mul(whole(a), whole(b))) }

func plainBytes(n uint64) []byte { return whole(n).Bytes() }
func plainKey(n uint64) []byte   { return whole(n).FillBytes(make([]byte, 8)) }
func plainPrint(n uint64) string { return whole(n).String() }

// plainRead, plainWordOf and plainParse tell the word whose writing is just what they are given.
func plainRead(b []byte) (uint64, bool) {
	n, ok := plainWord(new(big.Int).SetBytes(b))
	if !ok || string(plainBytes(n)) != string(b) {
		return 0, false
	}
	return n, true
}

func plainWordOf(b []byte) (uint64, bool) {
	n, ok := plainWord(new(big.Int).SetBytes(b))
	if !ok || string(plainKey(n)) != string(b) {
		return 0, false
	}
	return n, true
}

func plainParse(s string) (uint64, bool) {
	x, isWhole := new(big.Int).SetString(s, 10)
	if !isWhole {
		return 0, false
	}
	n, ok := plainWord(x)
	if !ok || plainPrint(n) != s {
		return 0, false
	}
	return n, true
}
