package apply_test

import (
	"fmt"
	"slices"
	"testing"

	"pergola/api"
	"pergola/apply"
	"pergola/state"
)

type balances = map[uint64]uint64

func receipt(status int, gas uint64) api.Receipt { return api.Receipt{Status: status, Gas: gas} }

// The chapter's examples.
func TestP172Examples(t *testing.T) {
	w := sparse(map[uint64]holding{5: {code: coded("mark push 0 jump")}})
	made := plainMade(1, 0)
	ends(t, "a value of 7", w, paying(100, 7), 9, receipt(api.Done, 100), balances{1: 793, 2: 7, 9: 200})
	ends(t, "a value of 900", w, paying(150, 900), 9, receipt(api.NoFunds, 100), balances{1: 800, 2: 0, 9: 200})
	ends(t, "a making", w, making(104, 5, coded("stop")), 9, api.Receipt{Gas: 102, Made: made}, balances{1: 791, made: 5, 9: 204})
	ends(t, "a loop", w, api.Tx{From: 1, Gas: 110, Price: 2, To: 5}, 9, receipt(api.NoGas, 110), balances{1: 780, 5: 0, 9: 220})
	for _, k := range []struct {
		t    api.Tx
		want api.Errno
	}{
		{paying(600, 0), api.ErrTxFunds}, {paying(99, 0), api.ErrTxGas}, {api.Tx{From: 1, Nonce: 1, Gas: 100, Price: 2}, api.ErrTxNonce}, {paying(20001, 0), api.ErrTxMost},
	} {
		onEach(t, "an example", w, func(b both) {
			if r, e := b.tx(k.t, 1, 9); r != (api.Receipt{}) || e != k.want {
				t.Errorf("P17.2: Tx(%+v) = %+v, %d, not %d", k.t, r, e, k.want)
			}
		})
	}
}

// The sender, the one who is paid and the beneficiary: one, two or three; with gas that is all used, and gas of which some is left.
func TestP172WhoIsWho(t *testing.T) {
	w := sparse(map[uint64]holding{2: {balance: 10}, 9: {balance: 20}})
	for _, k := range []struct {
		to, beneficiary uint64
		want            balances
	}{
		{1, 1, balances{1: 1000, 2: 10, 9: 20}},
		{1, 9, balances{1: 800, 2: 10, 9: 220}},
		{2, 1, balances{1: 993, 2: 17, 9: 20}},
		{2, 2, balances{1: 793, 2: 217, 9: 20}},
		{2, 9, balances{1: 793, 2: 17, 9: 220}},
		{3, 4, balances{1: 793, 2: 10, 3: 7, 4: 200, 9: 20}},
		{0, most, balances{0: 7, 1: 793, most: 200}},
	} {
		for _, gas := range []uint64{100, 125, 400} {
			x := paying(gas, 7)
			x.To = k.to
			ends(t, fmt.Sprintf("to %d, beneficiary %d, gas %d", k.to, k.beneficiary, gas), w, x, k.beneficiary, receipt(api.Done, 100), k.want)
		}
	}
}

// At a price of 0 nobody is paid for gas, nor asked for that.
func TestP172APriceOfNothing(t *testing.T) {
	for _, gas := range []uint64{100, 101, 20000} {
		x := api.Tx{From: 1, Gas: gas, To: 2, Value: 7}
		ends(t, "no price", sparse(nil), x, 9, receipt(api.Done, 100), balances{1: 993, 2: 7, 9: 0})
		x.Value = 1001
		ends(t, "no price, no funds", sparse(nil), x, 9, receipt(api.NoFunds, 100), balances{1: 1000, 2: 0, 9: 0})
		x.Value = 1000
		ends(t, "no price, all", sparse(nil), x, 9, receipt(api.Done, 100), balances{1: 0, 2: 1000, 9: 0})
	}
	x := api.Tx{From: 5, Gas: 100, To: 6}
	ends(t, "nobody calls nobody", sparse(nil), x, 5, receipt(api.Done, 100), balances{5: 0, 6: 0})
}

// Gas that is all used, by a code: nothing goes back; of one more gas just that does.
func TestP172GasThatIsUsed(t *testing.T) {
	w := callee("push 5 return")
	for gas := uint64(101); gas < 104; gas++ {
		want := api.Receipt{Gas: 101, Result: 5}
		ends(t, fmt.Sprint("gas ", gas), w, paying(gas, 0), 9, want, balances{1: 798, 9: 202})
		ends(t, fmt.Sprint("the same one's gas ", gas), w, paying(gas, 0), 1, want, balances{1: 1000})
	}
	ends(t, "no gas for the code", w, paying(100, 3), 9, receipt(api.NoGas, 100), balances{1: 800, 2: 0, 9: 200})
	ends(t, "the most gas", w, api.Tx{From: 1, Gas: 20000, To: 2}, 9, api.Receipt{Gas: 101, Result: 5}, balances{1: 1000})
	onEach(t, "the most gas, all used", callee("mark push 0 jump"), func(b both) {
		if r, e := b.tx(api.Tx{From: 1, Gas: 20000, To: 2}, 1, 9); r != receipt(api.NoGas, 20000) || e != api.OK {
			t.Errorf("P17.2: %s: %+v, %d", b.what, r, e)
		}
	})
}

// What is left behind the whole fee can be paid, though some of that fee comes back.
func TestP172TheValue(t *testing.T) {
	for _, k := range []struct {
		gas, value uint64
		status     int
		one, two   uint64
	}{
		{100, 0, api.Done, 800, 0}, {100, 1, api.Done, 799, 1}, {100, 800, api.Done, 0, 800}, {100, 801, api.NoFunds, 800, 0}, {100, most, api.NoFunds, 800, 0},
		{150, 700, api.Done, 100, 700}, {150, 701, api.NoFunds, 800, 0}, {150, 800, api.NoFunds, 800, 0}, {500, 0, api.Done, 800, 0}, {500, 1, api.NoFunds, 800, 0},
	} {
		ends(t, fmt.Sprintf("gas %d, value %d", k.gas, k.value), sparse(nil), paying(k.gas, k.value), 9, receipt(k.status, 100), balances{1: k.one, 2: k.two, 9: 200})
		// To itself what it has is enough, too, and no more.
		x := paying(k.gas, k.value)
		x.To = 1
		ends(t, fmt.Sprintf("to itself: gas %d, value %d", k.gas, k.value), sparse(nil), x, 9, receipt(k.status, 100), balances{1: 800, 9: 200})
	}
}

// Who is paid has room for just so much.
func TestP172NoRoomForTheValue(t *testing.T) {
	w := sparse(map[uint64]holding{2: {balance: most - 10}})
	ends(t, "just room", w, paying(100, 10), 9, receipt(api.Done, 100), balances{1: 790, 2: most, 9: 200})
	ends(t, "no room", w, paying(120, 11), 9, receipt(api.NoFunds, 100), balances{1: 800, 2: most - 10, 9: 200})
	// The fee goes to the same one behind the value, and finds no room.
	ends(t, "room for the value alone", w, paying(120, 10), 2, receipt(api.Done, 100), balances{1: 790, 2: most})
}

// The fee's part is lost whole where it does not fit in.
func TestP172NoRoomForTheFee(t *testing.T) {
	for _, k := range []struct{ has, then uint64 }{
		{0, 200}, {1, 201}, {most - 201, most - 1}, {most - 200, most}, {most - 199, most - 199}, {most - 1, most - 1}, {most, most},
	} {
		w := sparse(map[uint64]holding{9: {3, k.has, coded("stop")}})
		what := fmt.Sprint("the beneficiary has ", k.has)
		ends(t, what, w, paying(100, 7), 9, receipt(api.Done, 100), balances{1: 793, 2: 7, 9: k.then})
		ends(t, what, w, paying(150, 901), 9, receipt(api.NoFunds, 100), balances{1: 800, 2: 0, 9: k.then})
		// Its own sender, who has paid ahead of all, always has room for what comes back.
		x := api.Tx{From: 9, Nonce: 3, Gas: 150, Price: 2, To: 2}
		if k.has >= 300 {
			ends(t, what+", and sends", w, x, 9, receipt(api.Done, 100), balances{9: k.has})
			ends(t, what+", and sends", w, x, 1, receipt(api.Done, 100), balances{1: 1200, 9: k.has - 200})
		}
	}
}

// A code that pays the sender so much that there is no room for the gas that goes back: of 6, at a price of 2; nor for the beneficiary's part behind it.
func TestP172NoRoomForWhatGoesBack(t *testing.T) {
	w := sparse(map[uint64]holding{1: {balance: 310}, 2: {1, most, coded("push 1 push 0 input push 0 push 0 call")}})
	for _, k := range []struct{ value, one, both uint64 }{
		{0, 12, 310}, {1, 13, 311}, {most - 311, most - 299, most - 1}, {most - 310, most - 298, most}, {most - 309, most - 297, most - 297},
		{most - 298, most - 286, most - 286}, {most - 13, most - 1, most - 1}, {most - 12, most, most}, {most - 11, most - 11, most - 11}, {most, most, most},
	} {
		x := api.Tx{From: 1, Gas: 155, Price: 2, To: 2, Input: []uint64{k.value}}
		what := fmt.Sprintf("%d comes from the code", k.value)
		ends(t, what, w, x, 9, receipt(api.Done, 149), balances{1: k.one, 2: most - k.value, 9: 298})
		ends(t, what+", and all else", w, x, 1, receipt(api.Done, 149), balances{1: k.both, 2: most - k.value})
	}
}

// Who is asked for, in what order.
func TestP172WhoIsAskedFor(t *testing.T) {
	made := plainMade(1, 0)
	has := sparse(map[uint64]holding{2: {code: coded("push 7 load stop")}})
	for _, k := range []struct {
		what        string
		t           api.Tx
		beneficiary uint64
		want        []string
	}{
		{"a call", paying(200, 7), 9, []string{"account 1", "account 2", "code " + coded("push 7 load stop"), "storage 2", "slot 2 7", "account 9"}},
		{"a call, nothing left", paying(111, 7), 9, []string{"account 1", "account 2", "code " + coded("push 7 load stop"), "storage 2", "slot 2 7", "account 9"}},
		{"no value", paying(200, 0), 9, []string{"account 1", "account 2", "code " + coded("push 7 load stop"), "storage 2", "slot 2 7", "account 9"}},
		{"no gas for it", paying(105, 0), 9, []string{"account 1", "account 2", "code " + coded("push 7 load stop"), "account 9"}},
		{"a value that it has not", paying(200, 5000), 9, []string{"account 1", "account 9"}},
		{"to nobody", api.Tx{From: 1, Gas: 200, Price: 2, To: 4}, 9, []string{"account 1", "account 4", "account 9"}},
		{"to itself", api.Tx{From: 1, Gas: 200, Price: 2, To: 1, Value: 3}, 9, []string{"account 1", "account 9"}},
		{"for itself", api.Tx{From: 1, Gas: 200, Price: 2, To: 4, Value: 3}, 1, []string{"account 1", "account 4"}},
		{"no price", api.Tx{From: 1, Gas: 200, To: 4, Value: 3}, 9, []string{"account 1", "account 4"}},
		{"a making", making(200, 7, "a"), 9, []string{"account 1", fmt.Sprint("account ", made), "account 9"}},
		{"a making without a value", making(200, 0, ""), 9, []string{"account 1", fmt.Sprint("account ", made), "account 9"}},
		{"a making that can't be paid", making(200, 5000, "a"), 9, []string{"account 1", fmt.Sprint("account ", made), "account 9"}},
		{"a making at no price", api.Tx{From: 1, Gas: 200, Make: true}, 9, []string{"account 1", fmt.Sprint("account ", made)}},
	} {
		o := ownOf(has)
		s := state.New[*tree](o)
		if _, e := apply.Tx(s, k.t, 1, k.beneficiary); e != api.OK {
			t.Errorf("P17.2: %s: %d", k.what, e)
		}
		if got := o.calls(); !slices.Equal(got, k.want) {
			t.Errorf("P17.2: %s: asks for %q, not %q", k.what, got, k.want)
		}
	}
}

// The changes one by one: the sender's, those of what is done, what goes back, the beneficiary's part.
func TestP172TheOrderOfTheChanges(t *testing.T) {
	for kind, s := range overEach(sparse(nil)) {
		s.Set(7, 1, 1)
		if r, e := s.tx(paying(150, 7), 1, 9); r != receipt(api.Done, 100) || e != api.OK {
			t.Fatalf("P17.2: over %s: %+v, %d", kind, r, e)
		}
		for _, k := range []struct {
			mark           int
			nonce, one     uint64
			two, nine, had uint64
		}{
			{6, 1, 793, 7, 200, 1}, {5, 1, 793, 7, 0, 1}, {4, 1, 693, 7, 0, 1}, {3, 1, 693, 0, 0, 1}, {2, 1, 700, 0, 0, 1}, {1, 0, 1000, 0, 0, 1}, {0, 0, 1000, 0, 0, 0},
		} {
			if k.mark == 6 && s.Mark() != 6 {
				t.Fatalf("P17.2: over %s: %d changes stand", kind, s.Mark())
			}
			s.Back(k.mark)
			one, _ := s.Get(1)
			two, _ := s.Get(2)
			nine, _ := s.Get(9)
			seven, _ := s.Get(7)
			if one.Nonce != k.nonce || one.Balance != k.one || two.Balance != k.two || nine.Balance != k.nine || seven.Balance != k.had {
				t.Errorf("P17.2: over %s: behind %d changes: %+v, %+v, %+v", kind, k.mark, one, two, nine)
			}
		}
	}
}
