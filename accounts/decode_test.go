package accounts_test

import (
	"bytes"
	"slices"
	"testing"

	"pergola/accounts"
	"pergola/api"
)

// refused asks that b is no account's encoding, and that nothing is told beside the error.
func refused(t *testing.T, why string, b []byte) {
	t.Helper()
	if a, e := accounts.Decode(b); a != (api.Account{}) || e != api.ErrAccountsForm {
		t.Errorf("P12.2: Decode of %s, %.100x = %+v %d, not ErrAccountsForm", why, b, a, e)
	}
}

// checked holds Decode of b against the plain one, and tells whether it was taken.
func checked(t *testing.T, b []byte) bool {
	t.Helper()
	a, e := accounts.Decode(b)
	want, ok := plainDecode(b)
	if a != want || (e == api.OK) != ok || !ok && e != api.ErrAccountsForm {
		t.Fatalf("P12.2: Decode(%x) = %+v %d, not %+v", b, a, e, want)
	}
	if ok && !bytes.Equal(accounts.Encode(a), b) {
		t.Fatalf("P12.4: Encode(Decode(%x)) = %x", b, accounts.Encode(a))
	}
	return ok
}

// The four texts of an account that each have their bytes.
var (
	five     = unhex("05")
	thousand = unhex("8203e8")
	code     = plainText(bytes.Repeat([]byte{0xab}, 32))
	storage  = plainText(bytes.Repeat([]byte{0x12}, 32))
)

func TestP122DecodeTakesTheFourTexts(t *testing.T) {
	b := plainList(five, thousand, code, storage)
	want := account(5, 1000, api.Digest(code[1:]), api.Digest(storage[1:]))
	if a, e := accounts.Decode(b); a != want || e != api.OK {
		t.Errorf("P12.2: Decode(%x) = %+v %d", b, a, e)
	}
}

func TestP122DecodeRefusesWhatIsNoListOfFour(t *testing.T) {
	refused(t, "no bytes", nil)
	refused(t, "no bytes", []byte{})
	refused(t, "the empty text", unhex("80"))
	refused(t, "a text of one byte", five)
	refused(t, "a text of 32 bytes", code)
	whole := plainList(five, thousand, code, storage)
	refused(t, "a text that holds an account", append(unhex("b848"), whole...))
	refused(t, "a list that holds an account", plainList(whole))
	refused(t, "the texts without a list", whole[2:])
	refused(t, "a list of none", unhex("c0"))
	refused(t, "a list of one", plainList(five))
	refused(t, "a list of two", plainList(five, thousand))
	refused(t, "a list of three, without a storage", plainList(five, thousand, code))
	refused(t, "a list of three, without a nonce", plainList(thousand, code, storage))
	refused(t, "a list of three, without a code", plainList(five, thousand, storage))
	for _, more := range [][]byte{five, thousand, code, storage, unhex("80"), unhex("c0"), whole} {
		refused(t, "a list of five", plainList(five, thousand, code, storage, more))
		refused(t, "a list of five", plainList(more, five, thousand, code, storage))
	}
	refused(t, "a list of four, in another order", plainList(code, storage, five, thousand))
	refused(t, "a list of four, in another order", plainList(five, code, thousand, storage))
	refused(t, "a list of eight", plainList(five, thousand, code, storage, five, thousand, code, storage))
}

func TestP122DecodeRefusesAListInATextsPlace(t *testing.T) {
	fields := [][]byte{five, thousand, code, storage}
	for i, field := range fields {
		for why, x := range map[string][]byte{
			"an empty list":                 plainList(),
			"a list of the text":            plainList(field),
			"a list of the empty text":      plainList(unhex("80")),
			"a list of lists":               plainList(plainList(), plainList()),
			"a list of 32 texts":            plainList(bytes.Repeat([]byte{1}, 32)),
			"a list of an account":          plainEncode(api.Account{}),
			"lists too deep":                unhex("c8c7c6c5c4c3c2c1c0"),
			"a list with a body of 8 bytes": plainList(bytes.Repeat([]byte{1}, 8)),
		} {
			l := slices.Clone(fields)
			l[i] = x
			refused(t, why, plainList(l...))
		}
	}
}

func TestP122DecodeRefusesWhatIsNoWord(t *testing.T) {
	for _, word := range [][]byte{
		{0}, {0, 0}, {0, 1}, {0, 127}, {0, 128}, {0, 255, 255}, {0, 1, 2, 3, 4, 5, 6, 7},
		{0, 0, 0, 0, 0, 0, 0, 0}, {1, 0, 0, 0, 0, 0, 0, 0, 0}, {0, 255, 255, 255, 255, 255, 255, 255, 255},
		bytes.Repeat([]byte{255}, 9), bytes.Repeat([]byte{1}, 10), bytes.Repeat([]byte{1}, 32), bytes.Repeat([]byte{1}, 55),
	} {
		x := plainText(word)
		refused(t, "a nonce that is no word", plainList(x, thousand, code, storage))
		refused(t, "a balance that is no word", plainList(five, x, code, storage))
		refused(t, "two that are no words", plainList(x, x, code, storage))
	}
}

func TestP122DecodeTakesCodeAndStorageOf32BytesAlone(t *testing.T) {
	for n := range 56 {
		for _, c := range []byte{0, 1, 127, 128, 255} {
			run := bytes.Repeat([]byte{c}, n)
			x := plainText(run)
			if n != 32 {
				refused(t, "a code of another length", plainList(five, thousand, x, storage))
				refused(t, "a storage of another length", plainList(five, thousand, code, x))
				refused(t, "both of another length", plainList(five, thousand, x, x))
				continue
			}
			want := account(5, 1000, api.Digest(run), api.Digest(run))
			if a, e := accounts.Decode(plainList(five, thousand, x, x)); a != want || e != api.OK {
				t.Errorf("P12.2: Decode with the bytes %d = %+v %d", c, a, e)
			}
		}
	}
	refused(t, "code and storage of 64 bytes together", plainList(five, thousand, plainText(make([]byte, 31)), plainText(make([]byte, 33))))
	refused(t, "code and storage of 64 bytes together", plainList(five, thousand, plainText(make([]byte, 33)), plainText(make([]byte, 31))))
}

func TestP122DecodeRefusesAnotherWriting(t *testing.T) {
	for _, a := range few() {
		b := plainEncode(a)
		body := b[2:]
		refused(t, "a list's head of one byte more", append([]byte{0xf9, 0, byte(len(body))}, body...))
		refused(t, "a list's head of two bytes more", append([]byte{0xfa, 0, 0, byte(len(body))}, body...))
		refused(t, "a list's head of four bytes", append([]byte{0xfb, 0, 0, 0, byte(len(body))}, body...))
		refused(t, "a text of the list's bytes", append([]byte{0xb8, byte(len(body))}, body...))
		refused(t, "a list that is too short", append([]byte{0xf8, byte(len(body)) - 1}, body...))
		refused(t, "a list that is too long", append([]byte{0xf8, byte(len(body)) + 1}, body...))
	}
	refused(t, "a nonce with a head it needs not", plainList(unhex("8105"), thousand, code, storage))
	refused(t, "a balance with a head it needs not", plainList(five, unhex("8105"), code, storage))
	refused(t, "a nonce of 0 with a head it needs not", plainList(unhex("8100"), thousand, code, storage))
	refused(t, "a nonce with a long head", plainList(unhex("b80105"), thousand, code, storage))
	refused(t, "a balance with a long head", plainList(five, unhex("b80203e8"), code, storage))
	refused(t, "no balance with a long head", plainList(five, unhex("b800"), code, storage))
	refused(t, "a code with a long head", plainList(five, thousand, append(unhex("b820"), code[1:]...), storage))
	refused(t, "a storage with a long head", plainList(five, thousand, code, append(unhex("b820"), storage[1:]...)))
}

func TestP122DecodeRefusesMoreAndLess(t *testing.T) {
	for _, a := range few() {
		b := plainEncode(a)
		for c := range 256 {
			refused(t, "an account and a byte behind", append(bytes.Clone(b), byte(c)))
			refused(t, "an account and a byte ahead", append([]byte{byte(c)}, b...))
		}
		refused(t, "two accounts", append(bytes.Clone(b), b...))
		for n := range b {
			refused(t, "an account's beginning", b[:n])
			if n > 0 {
				refused(t, "an account's end", b[n:])
			}
		}
	}
}

// Bytes that are one step from an account's are another one's, or none's.
func TestP122P124DecodeOfTurnedBytes(t *testing.T) {
	taken := 0
	check := func(b []byte) {
		if checked(t, b) {
			taken++
		}
	}
	for _, a := range few() {
		b := plainEncode(a)
		for i := range b {
			for v := range 256 {
				c := bytes.Clone(b)
				c[i] = byte(v)
				check(c)
				// One byte more, and a head that says so.
				c = slices.Insert(bytes.Clone(b), i, byte(v))
				check(c)
				c[1] = byte(len(c) - 2)
				check(c)
			}
			c := slices.Delete(bytes.Clone(b), i, i+1)
			check(c)
			c[1] = byte(len(c) - 2)
			check(c)
		}
	}
	if taken == 0 {
		t.Error("P12.2: none was taken")
	}
}

// Lists of four things of each form, right and wrong.
func TestP122P124DecodeOfListsOfAnyThings(t *testing.T) {
	parts := [][]byte{
		{0}, {1}, {0x7f}, {0x80}, unhex("8100"), unhex("8180"), unhex("820001"), unhex("820100"), {0xc0}, {0xc1, 0x80},
		plainText(bytes.Repeat([]byte{9}, 8)), plainText(bytes.Repeat([]byte{9}, 9)),
		plainText(make([]byte, 31)), plainText(make([]byte, 32)), plainText(bytes.Repeat([]byte{0xa0}, 32)), plainText(make([]byte, 33)),
	}
	taken := 0
	for i := range len(parts) * len(parts) * len(parts) * len(parts) {
		var l [4][]byte
		for k := range l {
			l[k] = parts[i%len(parts)]
			i /= len(parts)
		}
		if checked(t, plainList(l[:]...)) {
			taken++
		}
	}
	// Of the words 1, 7f, none, 81 80, 82 01 00 and that of eight bytes are right; two of the digests.
	if want := 6 * 6 * 2 * 2; taken != want {
		t.Errorf("P12.2: %d were taken, not %d", taken, want)
	}
}

func TestP122DecodeOfFewBytes(t *testing.T) {
	for i := range 1 << 16 {
		refused(t, "a byte", []byte{byte(i)})
		refused(t, "two bytes", []byte{byte(i >> 8), byte(i)})
		refused(t, "three bytes", []byte{byte(i >> 8), byte(i), 0})
	}
}

func TestP122DecodeOfMuch(t *testing.T) {
	for _, b := range [][]byte{
		make([]byte, 1<<20), bytes.Repeat([]byte{0xc1}, 1<<20), bytes.Repeat([]byte{0xff}, 1<<20), bytes.Repeat([]byte{0xf8}, 1<<20),
		append(unhex("fa100000"), make([]byte, 1<<20)...),
		append(unhex("fa100000"), bytes.Repeat([]byte{0xc0}, 1<<20)...),
		append(unhex("fa100004 ba100000"), make([]byte, 1<<20)...),
		append(plainEncode(api.Account{}), make([]byte, 1<<20)...),
	} {
		refused(t, "much", b)
	}
}
