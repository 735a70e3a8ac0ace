package tx_test

import (
	"bytes"
	"slices"

	"pergola/api"
)

// edges are the words at which a byte more, or another form of a text, begins, and their neighbours.
func edges() []uint64 {
	l := []uint64{0, 1, 2, 100, 127, 128, 129, 192, 255, 256, 0x7f00, 0x8000, 0xff00ff, api.MaxGas, api.MaxGas + 1, 6364136223846793005, m - 1, m}
	for k := 2; k < 8; k++ {
		p := uint64(1) << (8 * k)
		l = append(l, p-1, p, 127*p, 128*p)
	}
	return l
}

func repeat(n uint64, count int) []uint64 { return slices.Repeat([]uint64{n}, count) }

// fills are bytes that codes are made of: each form of a text of one byte, and what looks like a head.
func fills() []byte { return []byte{0, 1, 0x42, 0x7f, 0x80, 0xb8, 0xc0, 0xff} }

// samples are transactions that are Right: each word at each place, each two of some; each length of an input and of a code.
func samples() []api.Tx {
	all := []api.Tx{{}, {Make: true}}
	bases := []api.Tx{{}, {From: 1, Nonce: 2, Gas: 200, Price: 4, To: 5, Value: 6, Input: []uint64{7, 256}}, {From: m, Make: true, Code: []byte{0x42}}}
	for _, t := range bases {
		for place := range wordThings {
			if place == 4 && t.Make {
				continue
			}
			for _, n := range edges() {
				all = append(all, with(t, place, n))
			}
		}
	}
	some := []uint64{0, 1, 127, 128, 255, 256, m}
	for first := range wordThings {
		for second := range first {
			for i := range len(some) * len(some) {
				all = append(all, with(with(api.Tx{}, first, some[i/len(some)]), second, some[i%len(some)]))
			}
		}
	}
	for _, n := range edges() {
		all = append(all, api.Tx{From: n, Nonce: n, Gas: n, Price: n, To: n, Value: n, Input: repeat(n, api.MaxInput)})
		all = append(all, api.Tx{From: n, Nonce: n, Gas: n, Price: n, Value: n, Make: true, Code: plainWord(n)})
	}
	return slices.Concat(all, inputs(), makers())
}

// inputs are transactions with inputs of each length, of which any one word is another one.
func inputs() []api.Tx {
	var all []api.Tx
	for count := range api.MaxInput + 1 {
		for _, n := range edges() {
			all = append(all, api.Tx{To: n, Input: repeat(n, count)})
			for i := range count {
				for _, fill := range []uint64{0, 1, 128, m} {
					input := repeat(fill, count)
					input[i] = n
					all = append(all, api.Tx{From: 1, Value: fill, Input: input})
				}
			}
		}
	}
	return all
}

// makers are transactions with codes of each length.
func makers() []api.Tx {
	var all []api.Tx
	for count := range api.MaxCode + 1 {
		for _, fill := range fills() {
			all = append(all, api.Tx{From: uint64(fill), Gas: uint64(count), Make: true, Code: bytes.Repeat([]byte{fill}, count)})
		}
		rising := make([]byte, count)
		for i := range rising {
			rising[i] = byte(i)
		}
		all = append(all, api.Tx{From: m, Nonce: m, Gas: m, Price: m, Value: m, Make: true, Code: rising})
	}
	return all
}

// few are transactions of each form.
func few() []api.Tx {
	return []api.Tx{
		{},
		{Make: true},
		{From: 1, Gas: 100, Price: 2, To: 2, Value: 7},
		{From: 1, Gas: 200, Input: []uint64{0, 256}},
		{From: 1, Make: true, Code: []byte{0}},
		{From: 127, Nonce: 128, Gas: 255, Price: 256, Value: m, Make: true, Code: bytes.Repeat([]byte{0x81}, 55)},
		{From: m, Nonce: m, Gas: m, Price: m, To: m, Value: m},
		{From: m, Nonce: 1 << 56, Gas: 1 << 48, Price: 1 << 40, To: 1 << 32, Value: 1 << 24, Input: repeat(m, api.MaxInput)},
		{From: 1, Nonce: 1, Gas: 1, Price: 1, Value: 1, Make: true, Code: bytes.Repeat([]byte{1}, api.MaxCode)},
	}
}

// wrongs are transactions that are not Right, for one thing or for several.
func wrongs() []api.Tx {
	var all []api.Tx
	for _, t := range shapes() {
		if !plainRight(t) {
			all = append(all, t)
		}
	}
	return all
}

// shapes are transactions of all that Right asks for, near each of its edges and far beyond them, right and wrong.
func shapes() []api.Tx {
	var all []api.Tx
	for _, words := range []int{0, 1, 2, 7, 8, 9, 10, 16, 300} {
		for _, size := range []int{0, 1, 2, 8, 9, 255, 256, 257, 258, 512, 70000} {
			for _, to := range []uint64{0, 1, 255, 256, 1 << 32, m} {
				t := api.Tx{From: 1, Nonce: 2, Gas: 3, Price: 4, To: to, Value: 5, Input: make([]uint64, words), Code: make([]byte, size)}
				all = append(all, t)
				t.Make = true
				all = append(all, t)
			}
		}
	}
	return all
}

// roll tells numbers that look like any, the same ones each time.
func roll(seed uint64) func(n int) int {
	return func(n int) int {
		seed = seed*6364136223846793005 + 1442695040888963407
		return int(seed>>33) % n
	}
}
