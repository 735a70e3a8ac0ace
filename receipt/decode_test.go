package receipt_test

import (
	"bytes"
	"slices"
	"testing"

	"pergola/api"
	"pergola/receipt"
)

// refused asks that b is no receipt's encoding, and that nothing is told beside the error.
func refused(t *testing.T, why string, b []byte) {
	t.Helper()
	if r, e := receipt.Decode(b); r != (api.Receipt{}) || e != api.ErrReceiptForm {
		t.Errorf("P18.2: Decode of %s, %.100x = %+v %d, not ErrReceiptForm", why, b, r, e)
	}
}

// checked holds Decode of b against the plain one, and tells whether it was taken.
func checked(t *testing.T, b []byte) bool {
	t.Helper()
	r, e := receipt.Decode(b)
	want, ok := plainDecode(b)
	if r != want || (e == api.OK) != ok || !ok && e != api.ErrReceiptForm {
		t.Fatalf("P18.2: Decode(%x) = %+v %d, not %+v %v", b, r, e, want, ok)
	}
	if again, _ := receipt.Encode(r); ok && !bytes.Equal(again, b) {
		t.Fatalf("P18.4: Encode(Decode(%x)) = %x", b, again)
	}
	return ok
}

// The four texts of a receipt that each have their bytes.
func fields() [][]byte { return [][]byte{unhex("80"), unhex("820101"), unhex("05"), unhex("820202")} }

func TestP182DecodeTakesTheFourTexts(t *testing.T) {
	if r, e := receipt.Decode(plainList(fields()...)); r != ended(0, 257, 5, 514) || e != api.OK {
		t.Errorf("P18.2: Decode of the four texts = %+v %d", r, e)
	}
}

func TestP182DecodeRefusesWhatIsNoListOfFour(t *testing.T) {
	refused(t, "no bytes", nil)
	refused(t, "no bytes", []byte{})
	for _, text := range []string{"80", "05", "8180", "820101", "84 80 80 80 80", "84 01 02 03 04", "c0"} {
		refused(t, "what is no list of four", unhex(text))
	}
	four := fields()
	whole := plainList(four...)
	refused(t, "a text that holds a receipt", plainText(whole))
	refused(t, "a list that holds a receipt", plainList(whole))
	refused(t, "four receipts", plainList(whole, whole, whole, whole))
	refused(t, "the texts without a list", whole[1:])
	for count := range 40 {
		if count != len(four) {
			refused(t, "a list of another length", plainList(slices.Repeat([][]byte{{0x80}}, count)...))
			refused(t, "a list of another length", plainList(slices.Repeat([][]byte{{1}}, count)...))
		}
	}
	for i := range four {
		refused(t, "a list of three", plainList(slices.Delete(fields(), i, i+1)...))
	}
	for i := range len(four) + 1 {
		for _, more := range [][]byte{{0x80}, {1}, {0xc0}, whole} {
			refused(t, "a list of five", plainList(slices.Insert(fields(), i, more)...))
		}
	}
}

func TestP182DecodeRefusesAListInATextsPlace(t *testing.T) {
	for i, field := range fields() {
		for why, x := range map[string][]byte{
			"an empty list":                 plainList(),
			"a list of the text":            plainList(field),
			"a list of the empty text":      plainList(unhex("80")),
			"a list of lists":               plainList(plainList(), plainList()),
			"a list of a receipt":           plainList(plainEncode(api.Receipt{})),
			"a receipt":                     plainEncode(api.Receipt{}),
			"lists too deep":                unhex("c8c7c6c5c4c3c2c1c0"),
			"a list with a body of 8 bytes": plainList(bytes.Repeat([]byte{1}, 8)),
		} {
			l := fields()
			l[i] = x
			refused(t, why, plainList(l...))
		}
	}
	refused(t, "four empty lists", unhex("c4 c0 c0 c0 c0"))
}

func TestP182DecodeRefusesWhatIsNoWord(t *testing.T) {
	for _, word := range [][]byte{
		{0}, {0, 0}, {0, 1}, {0, 127}, {0, 128}, {0, 255, 255}, {0, 1, 2, 3, 4, 5, 6, 7}, make([]byte, 8), make([]byte, 9),
		{1, 0, 0, 0, 0, 0, 0, 0, 0}, {1, 0, 0, 0, 0, 0, 0, 0, 1}, {0, 255, 255, 255, 255, 255, 255, 255, 255},
		bytes.Repeat([]byte{255}, 9), bytes.Repeat([]byte{1}, 10), bytes.Repeat([]byte{1}, 16), bytes.Repeat([]byte{1}, 55),
	} {
		for i := range fields() {
			l := fields()
			l[i] = plainText(word)
			refused(t, "what is no word", plainList(l...))
		}
		x := plainText(word)
		refused(t, "four that are no words", plainList(x, x, x, x))
	}
}

func TestP182DecodeRefusesAStatusThatThereIsNot(t *testing.T) {
	for _, n := range append(edges(), 10, 11, 12, 255, 256, 1<<63+1, 1<<63+9, 1<<32+1, m-8, 1<<63-1) {
		b := plainOf(n, 5, 0, 0)
		if n > 9 {
			refused(t, "a Status that there is not", b)
			refused(t, "a Status that there is not", plainOf(n, 0, 0, 0))
			refused(t, "a Status that there is not", plainOf(n, m, 7, 0))
			refused(t, "a Status that there is not", plainOf(n, m, 7, 9))
		} else if r, e := receipt.Decode(b); r != ended(int(n), 5, 0, 0) || e != api.OK {
			t.Errorf("P18.2: Decode(%x) = %+v %d", b, r, e)
		}
	}
}

func TestP182DecodeRefusesWhatIsNotRight(t *testing.T) {
	for status := range uint64(10) {
		for _, n := range edges() {
			checked(t, plainOf(status, 1, n, 0))
			checked(t, plainOf(status, 1, 0, n))
			checked(t, plainOf(status, 1, n, n))
			if n != 0 && status != api.Done {
				refused(t, "a Made that may not be", plainOf(status, n, 0, n))
				refused(t, "a Made that may not be", plainOf(status, n, n, n))
			}
			if n != 0 && status != api.Done && status != api.Reverted {
				refused(t, "a Result that may not be", plainOf(status, n, n, 0))
			}
		}
	}
	for _, r := range wrongs() {
		refused(t, "what is not Right", plainEncode(r))
	}
}

func TestP182DecodeRefusesAnotherWriting(t *testing.T) {
	for _, r := range few() {
		b := plainEncode(r)
		body := b[1:]
		n := byte(len(body))
		refused(t, "a list's head of one byte more", append([]byte{0xf8, n}, body...))
		refused(t, "a list's head of two bytes more", append([]byte{0xf9, 0, n}, body...))
		refused(t, "a list's head of three bytes more", append([]byte{0xfa, 0, 0, n}, body...))
		refused(t, "a list's head of four bytes more", append([]byte{0xfb, 0, 0, 0, n}, body...))
		refused(t, "a text of the list's bytes", append([]byte{0x80 + n}, body...))
		refused(t, "a list that is too short", append([]byte{b[0] - 1}, body...))
		refused(t, "a list that is too long", append([]byte{b[0] + 1}, body...))
	}
	for i := range fields() {
		for _, x := range []string{"8101", "8100", "817f", "b80101", "b80180", "b800", "b90000"} {
			l := fields()
			l[i] = unhex(x)
			refused(t, "a text with a head that it needs not", plainList(l...))
		}
	}
}

func TestP182DecodeRefusesMoreAndLess(t *testing.T) {
	for _, r := range few() {
		b := plainEncode(r)
		for c := range 256 {
			refused(t, "a receipt and a byte behind", append(bytes.Clone(b), byte(c)))
			refused(t, "a receipt and a byte ahead", append([]byte{byte(c)}, b...))
		}
		refused(t, "two receipts", append(bytes.Clone(b), b...))
		for n := range b {
			refused(t, "a receipt's beginning", b[:n])
			if n > 0 {
				refused(t, "a receipt's end", b[n:])
			}
		}
	}
}

// Bytes that are one step from a receipt's are another one's, or none's.
func TestP182P184DecodeOfTurnedBytes(t *testing.T) {
	taken := 0
	check := func(b []byte) {
		if checked(t, b) {
			taken++
		}
	}
	for _, r := range few() {
		b := plainEncode(r)
		for i := range b {
			for v := range 256 {
				c := bytes.Clone(b)
				c[i] = byte(v)
				check(c)
				// One byte more, and a head that says so.
				c = slices.Insert(bytes.Clone(b), i, byte(v))
				check(c)
				c[0] = 192 + byte(len(c)-1)
				check(c)
			}
			c := slices.Delete(bytes.Clone(b), i, i+1)
			check(c)
			if len(c) > 0 {
				c[0] = 192 + byte(len(c)-1)
				check(c)
			}
		}
	}
	if taken == 0 {
		t.Error("P18.2: none was taken")
	}
}

// Lists of four things of each form, right and wrong.
func TestP182P184DecodeOfListsOfAnyThings(t *testing.T) {
	parts := [][]byte{
		{0}, {1}, {2}, {9}, {10}, {0x7f}, {0x80}, unhex("8100"), unhex("8109"), unhex("8180"), unhex("820001"), unhex("820100"), {0xc0}, {0xc1, 0x80},
		plainText(bytes.Repeat([]byte{9}, 8)), plainText(bytes.Repeat([]byte{9}, 9)), plainText(bytes.Repeat([]byte{0xff}, 8)),
	}
	taken := 0
	for i := range len(parts) * len(parts) * len(parts) * len(parts) {
		var l [4][]byte
		for k := range l {
			l[k] = parts[i%len(parts)]
			i /= len(parts)
		}
		if checked(t, plainList(l[:]...)) {
			taken++
		}
	}
	// Ten of them are words. Done: three of any; Reverted: two of any and no Made; 2 and 9: one of any alone.
	if want := 10*10*10 + 10*10 + 2*10; taken != want {
		t.Errorf("P18.2: %d were taken, not %d", taken, want)
	}
}

func TestP182DecodeOfFewBytes(t *testing.T) {
	for i := range 1 << 16 {
		refused(t, "a byte", []byte{byte(i)})
		refused(t, "two bytes", []byte{byte(i >> 8), byte(i)})
		refused(t, "three bytes", []byte{0xc2, byte(i >> 8), byte(i)})
		checked(t, []byte{0xc4, byte(i >> 8), byte(i), 0x80, 0x80})
		checked(t, []byte{0xc4, 0x80, 0x80, byte(i >> 8), byte(i)})
		checked(t, []byte{0xc4, 1, byte(i >> 8), byte(i), 0x80})
	}
}

func TestP182DecodeOfMuch(t *testing.T) {
	for _, b := range [][]byte{
		make([]byte, 1<<20), bytes.Repeat([]byte{0xc1}, 1<<20), bytes.Repeat([]byte{0xff}, 1<<20), bytes.Repeat([]byte{0xf8}, 1<<20),
		append(unhex("fa100000"), make([]byte, 1<<20)...),
		append(unhex("fa100000"), bytes.Repeat([]byte{0xc0}, 1<<20)...),
		append(unhex("fa100004 ba100000"), make([]byte, 1<<20)...),
		append(plainEncode(api.Receipt{}), make([]byte, 1<<20)...),
	} {
		refused(t, "much", b)
	}
}
