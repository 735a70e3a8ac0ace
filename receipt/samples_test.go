package receipt_test

import (
	"slices"

	"pergola/api"
)

func ended(status int, gas, result, made uint64) api.Receipt {
	return api.Receipt{Status: status, Gas: gas, Result: result, Made: made}
}

// edges are the words at which a byte more, or another form of a text, begins: each power of two, and its neighbours.
func edges() []uint64 {
	l := []uint64{0, 100, 192, api.MaxGas, 0xff00ff, 6364136223846793005, m - 1, m}
	for k := range 64 {
		p := uint64(1) << k
		l = append(l, p-1, p, p+1)
	}
	slices.Sort(l)
	return slices.Compact(l)
}

// statuses are those that there are, and far more that there are not.
func statuses() []int {
	l := []int{leastInt, leastInt + 1, leastInt + 9, -1 << 32, -256, mostInt, mostInt - 1, 1<<62 + 1, 255, 256, 257, 265}
	for k := -12; k < 24; k++ {
		l = append(l, k)
	}
	for k := 8; k < 63; k++ {
		// What is left of these in fewer bits is a Status.
		l = append(l, 1<<k, 1<<k+1, 1<<k+9, -1<<k, -1<<k+1)
	}
	return l
}

// shapes are receipts of all that Right asks for, right and wrong.
func shapes() []api.Receipt {
	var all []api.Receipt
	some := []uint64{0, 1, 2, 9, 10, 256, 1 << 32, 1 << 63, m}
	for _, status := range statuses() {
		for _, result := range some {
			for _, made := range some {
				for _, gas := range []uint64{0, 1, api.MaxGas, m} {
					all = append(all, ended(status, gas, result, made))
				}
			}
		}
	}
	return all
}

// samples are receipts that are Right: each word at each place, each two of some.
func samples() []api.Receipt {
	var all []api.Receipt
	for _, r := range shapes() {
		if plainRight(r) {
			all = append(all, r)
		}
	}
	for _, n := range edges() {
		for status := range 10 {
			all = append(all, ended(status, n, 0, 0))
		}
		for _, other := range []uint64{0, 1, 128, m} {
			all = append(all,
				ended(api.Done, other, n, 0), ended(api.Done, other, 0, n), ended(api.Done, other, n, n), ended(api.Done, n, n, other),
				ended(api.Done, n, other, n), ended(api.Reverted, other, n, 0), ended(api.Reverted, n, other, 0), ended(api.Reverted, n, n, 0))
		}
	}
	return all
}

// wrongs are receipts that are not Right, for one thing or for several.
func wrongs() []api.Receipt {
	return slices.DeleteFunc(shapes(), plainRight)
}

// few are receipts of each form and of each length.
func few() []api.Receipt {
	l := []api.Receipt{{}, {Gas: 100}, ended(api.Reverted, 300, 1, 0), ended(api.Done, 127, 128, 255), ended(api.Done, m, m, m), ended(api.Reverted, m, m, 0)}
	for status := range 10 {
		l = append(l, ended(status, uint64(status)*100, 0, 0))
	}
	for k := range 8 {
		p := uint64(1) << (8 * k)
		l = append(l, ended(api.Done, p, 127*p, 128*p), ended(api.Reverted, 255*p, p-1, 0), ended(api.Taken, 128*p, 0, 0))
	}
	return l
}

// fewWrongs are receipts that are wrong in one thing each.
func fewWrongs() []api.Receipt {
	l := []api.Receipt{{Status: 10}, {Status: -1}, {Status: leastInt}, {Status: mostInt}, {Status: api.Reverted, Made: 5}, {Status: 256}}
	for status := api.NoGas; status <= api.Taken; status++ {
		l = append(l, ended(status, 5, 1, 0), ended(status, 5, 0, 1))
	}
	return l
}

// roll tells numbers that look like any, the same ones each time.
func roll(seed uint64) func(n int) int {
	return func(n int) int {
		seed = seed*6364136223846793005 + 1442695040888963407
		return int(seed>>33) % n
	}
}

// many are so many receipts, out of those that are Right.
func many(seed uint64, count int) []api.Receipt {
	die, all := roll(seed), samples()
	l := make([]api.Receipt, count)
	for i := range l {
		l[i] = all[die(len(all))]
	}
	return l
}
