package accounts_test

import (
	"bytes"
	"slices"
	"strings"
	"testing"

	"pergola/accounts"
	"pergola/api"
	"pergola/digest"
	"pergola/node"
)

func TestP121Empty(t *testing.T) {
	a := accounts.Empty()
	if a.Nonce != 0 || a.Balance != 0 || a.Code != node.EmptyCode() || a.Storage != node.EmptyRoot() {
		t.Errorf("P12.1: Empty() = %+v", a)
	}
	if a.Code != digest.Of(nil) || a.Storage != digest.Of([]byte{0x80}) {
		t.Errorf("P12.1: Empty() = %+v", a)
	}
	if !accounts.Is(a) || !accounts.Is(account(0, 0, node.EmptyCode(), node.EmptyRoot())) {
		t.Error("P12.1: the empty account is not that")
	}
}

func TestP121NoOtherIsEmpty(t *testing.T) {
	code, storage := node.EmptyCode(), node.EmptyRoot()
	for why, a := range map[string]api.Account{
		"the zero one":                     {},
		"no code":                          account(0, 0, api.Digest{}, storage),
		"no storage":                       account(0, 0, code, api.Digest{}),
		"code and storage the wrong way":   account(0, 0, storage, code),
		"the code twice":                   account(0, 0, code, code),
		"the storage twice":                account(0, 0, storage, storage),
		"nonce and balance":                account(1, 1, code, storage),
		"nonce and balance, together zero": account(1, m, code, storage),
		"all else":                         account(m, m, api.Digest{}, api.Digest{}),
	} {
		if accounts.Is(a) {
			t.Errorf("P12.1: Is of %s, %+v", why, a)
		}
	}
	for _, n := range edges() {
		if accounts.Is(account(n, 0, code, storage)) != (n == 0) || accounts.Is(account(0, n, code, storage)) != (n == 0) {
			t.Errorf("P12.1: Is with the nonce or the balance %d", n)
		}
	}
	for k := range 64 {
		if p := uint64(1) << k; accounts.Is(account(p, 0, code, storage)) || accounts.Is(account(0, p, code, storage)) {
			t.Errorf("P12.1: Is with the nonce or the balance %d", p)
		}
	}
}

func TestP121EachBitOfCodeAndStorageIsAsked(t *testing.T) {
	for i := range 32 {
		for bit := range 8 {
			a, b := accounts.Empty(), accounts.Empty()
			a.Code[i] ^= 1 << bit
			b.Storage[i] ^= 1 << bit
			if accounts.Is(a) || accounts.Is(b) {
				t.Fatalf("P12.1: Is with the bit %d of the byte %d turned", bit, i)
			}
		}
	}
}

func TestP122ByteByByte(t *testing.T) {
	a0 := func(c string) string { return "a0" + strings.Repeat(c, 32) }
	one, other := api.Digest(bytes.Repeat([]byte{0xab}, 32)), api.Digest(bytes.Repeat([]byte{0x12}, 32))
	for _, k := range []struct {
		nonce, balance uint64
		head           string
	}{
		{5, 1000, "f846 05 8203e8"},
		{0, 0, "f844 80 80"},
		{1, 0, "f844 01 80"},
		{0, 1, "f844 80 01"},
		{127, 127, "f844 7f 7f"},
		{128, 127, "f845 8180 7f"},
		{127, 128, "f845 7f 8180"},
		{255, 256, "f847 81ff 820100"},
		{256, 255, "f847 820100 81ff"},
		{65535, 65536, "f849 82ffff 83010000"},
		{1 << 24, 1 << 32, "f84d 8401000000 850100000000"},
		{1 << 40, 1 << 48, "f851 86010000000000 8701000000000000"},
		{1 << 56, 1<<56 - 1, "f853 880100000000000000 87ffffffffffffff"},
		{m, 0, "f84c 88ffffffffffffffff 80"},
		{0, m, "f84c 80 88ffffffffffffffff"},
		{m, m, "f854 88ffffffffffffffff 88ffffffffffffffff"},
	} {
		a, want := account(k.nonce, k.balance, one, other), unhex(k.head+a0("ab")+a0("12"))
		if b := accounts.Encode(a); !bytes.Equal(b, want) {
			t.Errorf("P12.2: Encode(%+v) = %x, not %x", a, b, want)
		}
		if got, e := accounts.Decode(want); got != a || e != api.OK {
			t.Errorf("P12.2: Decode(%x) = %+v %d, not %+v", want, got, e, a)
		}
	}
}

func TestP122TheEmptyAndTheZeroOne(t *testing.T) {
	code, storage := digest.Of(nil), digest.Of([]byte{0x80})
	want := slices.Concat(unhex("f844 80 80 a0"), code[:], unhex("a0"), storage[:])
	if b := accounts.Encode(accounts.Empty()); !bytes.Equal(b, want) {
		t.Errorf("P12.2: Encode of the empty account = %x, not %x", b, want)
	}
	if a, e := accounts.Decode(want); a != accounts.Empty() || !accounts.Is(a) || e != api.OK {
		t.Errorf("P12.2: Decode(%x) = %+v %d", want, a, e)
	}
	none := strings.Repeat("00", 32)
	want = unhex("f844 80 80 a0" + none + "a0" + none)
	if b := accounts.Encode(api.Account{}); !bytes.Equal(b, want) {
		t.Errorf("P12.2: Encode of the zero account = %x, not %x", b, want)
	}
	if a, e := accounts.Decode(want); a != (api.Account{}) || e != api.OK {
		t.Errorf("P12.2: Decode(%x) = %+v %d", want, a, e)
	}
}

func TestP122EncodeOfEachAccount(t *testing.T) {
	for _, a := range samples() {
		if b, want := accounts.Encode(a), plainEncode(a); !bytes.Equal(b, want) {
			t.Fatalf("P12.2: Encode(%+v) = %x, not %x", a, b, want)
		}
	}
}

func TestP124ThereAndBack(t *testing.T) {
	for _, a := range samples() {
		b := accounts.Encode(a)
		got, e := accounts.Decode(b)
		if got != a || e != api.OK {
			t.Fatalf("P12.4: Decode(Encode(%+v)) = %+v %d", a, got, e)
		}
		if again := accounts.Encode(got); !bytes.Equal(again, b) {
			t.Fatalf("P12.4: Encode(Decode(%x)) = %x", b, again)
		}
	}
}

func TestP124UnlikeAccountsHaveUnlikeEncodings(t *testing.T) {
	written := map[string]api.Account{}
	for _, a := range samples() {
		b := string(accounts.Encode(a))
		if other, ok := written[b]; ok && other != a {
			t.Fatalf("P12.4: %x is both %+v and %+v", b, other, a)
		}
		written[b] = a
	}
}

func TestP124LengthOfAnEncoding(t *testing.T) {
	told := map[int]int{}
	for _, a := range samples() {
		n := len(accounts.Encode(a))
		if n < 70 || n > 86 {
			t.Fatalf("P12.4: the encoding of %+v has %d bytes", a, n)
		}
		told[n]++
	}
	// Each length from the least to the greatest is some account's.
	if len(told) != 17 {
		t.Errorf("P12.4: the encodings have %d lengths: %v", len(told), told)
	}
	for n, a := range map[int]api.Account{
		70: {}, 71: {Nonce: 128}, 72: {Balance: 256}, 78: {Nonce: m}, 85: {Nonce: m, Balance: 1<<56 - 1}, 86: {Nonce: m, Balance: m},
	} {
		if b := accounts.Encode(a); len(b) != n {
			t.Errorf("P12.4: the encoding of %+v has %d bytes, not %d", a, len(b), n)
		}
	}
	if n := len(accounts.Encode(accounts.Empty())); n != 70 {
		t.Errorf("P12.4: the encoding of the empty account has %d bytes", n)
	}
}
