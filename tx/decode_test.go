package tx_test

import (
	"bytes"
	"slices"
	"testing"

	"pergola/api"
	"pergola/tx"
)

func refused(t *testing.T, why string, b []byte) {
	t.Helper()
	if got, e := tx.Decode(b); !same(got, api.Tx{}) || e != api.ErrTxForm {
		t.Errorf("P16.2: Decode of %s, %.200x = %+v %d", why, b, got, e)
	}
}

// checked holds Decode of b against the plain one, and tells whether it is a transaction's.
func checked(t *testing.T, b []byte) bool {
	t.Helper()
	got, e := tx.Decode(b)
	want, ok := plainDecode(b)
	if !same(got, want) || (e == api.OK) != ok || !ok && e != api.ErrTxForm {
		t.Fatalf("P16.2: Decode(%x) = %+v %d, not %+v %v", b, got, e, want, ok)
	}
	if !ok {
		return false
	}
	if again, e := tx.Encode(got); !bytes.Equal(again, b) || e != api.OK || !tx.Right(got) {
		t.Fatalf("P16.4: Encode(Decode(%x)) = %x %d", b, again, e)
	}
	return true
}

// put tells the list of the parts with another one at a place.
func put(parts [][]byte, place int, part []byte) []byte {
	l := slices.Clone(parts)
	l[place] = part
	return plainList(l...)
}

func caller() [][]byte {
	return plainParts(api.Tx{From: 1, Nonce: 2, Gas: 200, Price: 4, To: 5, Value: 6, Input: []uint64{7, 256}})
}

func maker() [][]byte {
	return plainParts(api.Tx{From: 1, Nonce: 2, Gas: 300, Price: 4, Value: 6, Make: true, Code: []byte{0x42, 0}})
}

// bases are the parts of transactions that are taken.
func bases() [][][]byte {
	all := [][][]byte{caller(), maker()}
	for _, u := range few() {
		all = append(all, plainParts(u))
	}
	return all
}

func TestP162TheBasesAreTaken(t *testing.T) {
	for _, parts := range bases() {
		if !checked(t, plainList(parts...)) {
			t.Errorf("P16.2: %x is refused", parts)
		}
	}
}

func TestP162DecodeRefusesWhatIsNoListOfNine(t *testing.T) {
	for _, b := range [][]byte{nil, {}, {0}, {0x7f}, {0x80}, {0xc0}, {0xff}, unhex("c9"), unhex("8180")} {
		refused(t, "next to nothing", b)
	}
	for _, parts := range bases() {
		whole := plainList(parts...)
		refused(t, "a text in the place of the list", plainText(whole))
		refused(t, "a text of the list's body", plainText(slices.Concat(parts...)))
		refused(t, "a list that holds the list", plainList(whole))
		refused(t, "the things without a list", slices.Concat(parts...))
		for place := range things {
			refused(t, "a list of eight", plainList(slices.Delete(slices.Clone(parts), place, place+1)...))
			refused(t, "a list of ten, one of them twice", plainList(slices.Insert(slices.Clone(parts), place, parts[place])...))
			for _, more := range [][]byte{{0x80}, {0xc0}, {0}, {1}, whole} {
				refused(t, "a list of ten", plainList(slices.Insert(slices.Clone(parts), place, more)...))
			}
		}
		for _, more := range [][]byte{{0x80}, {0xc0}, {0}, {1}, whole} {
			refused(t, "a list of ten, one behind", plainList(append(slices.Clone(parts), more)...))
		}
		for n := range things {
			refused(t, "a list of fewer", plainList(parts[:n]...))
			refused(t, "a list of fewer, from the back", plainList(parts[n+1:]...))
		}
		refused(t, "a list of eighteen", plainList(append(slices.Clone(parts), parts...)...))
	}
}

func TestP162DecodeRefusesAListInATextsPlace(t *testing.T) {
	for _, parts := range bases() {
		for place, part := range parts {
			if place == 6 {
				continue
			}
			for _, list := range [][]byte{
				plainList(), plainList(part), plainList(plainBody(part)), plainList([]byte{0x80}), plainList([]byte{1}), plainList([]byte{0}),
				plainList(plainList()), plainList(plainList(), plainList()), plainList(part, part), plainList(parts...),
			} {
				refused(t, "a list in a text's place", put(parts, place, list))
			}
		}
	}
}

func TestP162DecodeRefusesATextInTheInputsPlace(t *testing.T) {
	for _, parts := range bases() {
		for _, text := range [][]byte{{}, {0}, {1}, {0x7f}, {0x80}, {0xc0}, {1, 2}, make([]byte, 8), make([]byte, 60), plainBody(parts[6]), parts[6]} {
			refused(t, "a text in the place of the input", put(parts, 6, plainText(text)))
		}
	}
}

// noWords are texts that no word is written as.
func noWords() [][]byte {
	return [][]byte{
		{0}, {0, 0}, {0, 1}, {0, 127}, {0, 128}, {0, 255, 255}, {0, 1, 2, 3, 4, 5, 6, 7}, make([]byte, 8),
		{1, 0, 0, 0, 0, 0, 0, 0, 0}, {0, 255, 255, 255, 255, 255, 255, 255, 255}, {0, 0, 0, 0, 0, 0, 0, 0, 1}, make([]byte, 9),
		bytes.Repeat([]byte{255}, 9), bytes.Repeat([]byte{1}, 10), bytes.Repeat([]byte{1}, 16), bytes.Repeat([]byte{9}, 60),
	}
}

func TestP162DecodeRefusesWhatIsNoWord(t *testing.T) {
	for _, parts := range bases() {
		for _, text := range noWords() {
			for place := range wordThings {
				refused(t, "a text that is no word", put(parts, place, plainText(text)))
			}
		}
	}
}

func TestP162DecodeRefusesAnotherMake(t *testing.T) {
	var wrong [][]byte
	for n := range 256 {
		if n != 1 {
			wrong = append(wrong, []byte{byte(n)})
		}
		wrong = append(wrong, []byte{1, byte(n)}, []byte{byte(n), 1}, []byte{0, byte(n)})
	}
	wrong = append(wrong, []byte{1, 0, 0}, []byte{0, 0, 1}, make([]byte, 8), make([]byte, 9), unhex("0100000000000000"), unhex("010000000000000001"), bytes.Repeat([]byte{1}, 60))
	for _, parts := range bases() {
		for _, text := range wrong {
			refused(t, "another Make", put(parts, 7, plainText(text)))
		}
	}
}

// calls tells the bytes of a transaction with an input of such things.
func calls(input ...[]byte) []byte { return put(caller(), 6, plainList(input...)) }

func TestP162DecodeOfInputs(t *testing.T) {
	ok := []byte{5}
	for n := range api.MaxInput + 1 {
		if !checked(t, calls(slices.Repeat([][]byte{ok}, n)...)) {
			t.Errorf("P16.2: %d words of input are refused", n)
		}
	}
	for _, n := range []int{9, 10, 16, 17, 55, 56, 255, 256, 1000, 70000} {
		refused(t, "too many words of input", calls(slices.Repeat([][]byte{ok}, n)...))
		refused(t, "too many noughts of input", calls(slices.Repeat([][]byte{{0x80}}, n)...))
	}
	var wrong [][]byte
	for _, text := range noWords() {
		wrong = append(wrong, plainText(text))
	}
	wrong = append(wrong, plainList(), plainList(ok), plainList([]byte{0x80}), plainList(plainList()), plainList(ok, ok), unhex("8105"), unhex("b80105"), unhex("f800"))
	for n := range api.MaxInput {
		for place := range n + 1 {
			for _, x := range wrong {
				refused(t, "an input with what is no word", calls(slices.Insert(slices.Repeat([][]byte{ok}, n), place, x)...))
			}
		}
	}
}

// makes tells the bytes of a transaction that makes a code.
func makes(code []byte) []byte { return put(maker(), 8, plainText(code)) }

func TestP162DecodeOfCodes(t *testing.T) {
	for n := range api.MaxCode + 1 {
		for _, fill := range fills() {
			if !checked(t, makes(bytes.Repeat([]byte{fill}, n))) {
				t.Errorf("P16.2: %d bytes of code are refused", n)
			}
		}
	}
	for _, n := range []int{257, 258, 300, 512, 513, 1000, 65535, 65536, 1 << 20} {
		for _, fill := range fills() {
			refused(t, "a code of too many bytes", makes(bytes.Repeat([]byte{fill}, n)))
		}
	}
}

func TestP162DecodeRefusesWhatIsNotRight(t *testing.T) {
	for _, n := range []int{1, 2, 255, 256, 257} {
		for _, fill := range fills() {
			refused(t, "a code without Make", put(caller(), 8, plainText(bytes.Repeat([]byte{fill}, n))))
			refused(t, "a code without Make, of one without input", put(plainParts(api.Tx{}), 8, plainText(bytes.Repeat([]byte{fill}, n))))
		}
	}
	for _, n := range edges() {
		if b := put(maker(), 4, plainText(plainWord(n))); n != 0 {
			refused(t, "Make with a To", b)
		} else if !checked(t, b) {
			t.Errorf("P16.2: Make with the To 0 is refused")
		}
		refused(t, "Make with an input", put(maker(), 6, plainList(plainText(plainWord(n)))))
	}
	for _, u := range wrongs() {
		refused(t, "one that is not Right", plainEncode(u))
	}
}

func TestP162DecodeRefusesALongerForm(t *testing.T) {
	for _, parts := range bases() {
		for place, part := range parts {
			body := plainBody(part)
			first := byte(128)
			if place == 6 {
				first = 192
			}
			n := len(body)
			for _, head := range [][]byte{
				{first + byte(n)}, {first + 56, byte(n)}, {first + 57, byte(n >> 8), byte(n)}, {first + 58, 0, byte(n >> 8), byte(n)},
				{first + 59, 0, 0, byte(n >> 8), byte(n)}, {first + 63, 0, 0, 0, 0, 0, 0, byte(n >> 8), byte(n)},
			} {
				if x := slices.Concat(head, body); !bytes.Equal(x, part) {
					refused(t, "an item in a longer form", put(parts, place, x))
				}
			}
		}
		body := slices.Concat(parts...)
		n := len(body)
		for _, head := range [][]byte{{0xf8, byte(n)}, {0xf9, byte(n >> 8), byte(n)}, {0xfa, 0, byte(n >> 8), byte(n)}, {0xfb, 0, 0, byte(n >> 8), byte(n)}, {0xff, 0, 0, 0, 0, 0, 0, byte(n >> 8), byte(n)}} {
			if b := slices.Concat(head, body); !bytes.Equal(b, plainList(parts...)) {
				refused(t, "the list in a longer form", b)
			}
		}
	}
}

func TestP162DecodeRefusesMoreAndLess(t *testing.T) {
	for _, parts := range bases() {
		b := plainList(parts...)
		for c := range 256 {
			refused(t, "a transaction and a byte behind", append(bytes.Clone(b), byte(c)))
			refused(t, "a transaction and a byte ahead", append([]byte{byte(c)}, b...))
		}
		refused(t, "two transactions", append(bytes.Clone(b), b...))
		body := slices.Concat(parts...)
		for n := range b {
			refused(t, "a transaction's beginning", b[:n])
			if n > 0 {
				refused(t, "a transaction's end", b[n:])
			}
		}
		for n := range body {
			refused(t, "the beginning of a transaction's things", plainList(body[:n]))
		}
	}
}

// Bytes that are one step from a transaction's are another one's, or none's.
func TestP162P164DecodeOfTurnedBytes(t *testing.T) {
	taken, left := 0, 0
	check := func(b []byte) {
		if checked(t, b) {
			taken++
		} else {
			left++
		}
	}
	for _, u := range few() {
		b := plainEncode(u)
		body := slices.Concat(plainParts(u)...)
		for i := range b {
			for v := range 256 {
				c := bytes.Clone(b)
				c[i] = byte(v)
				check(c)
			}
			check(slices.Delete(bytes.Clone(b), i, i+1))
		}
		// One byte more, or less, and a head that says so.
		for i := range body {
			for v := range 256 {
				check(plainList(slices.Insert(bytes.Clone(body), i, byte(v))))
			}
			check(plainList(slices.Delete(bytes.Clone(body), i, i+1)))
		}
	}
	if taken == 0 || left == 0 {
		t.Errorf("P16.2: %d were taken, %d refused", taken, left)
	}
}

// anyParts are things of each form, right ones and wrong ones.
func anyParts() [][]byte {
	return [][]byte{
		{0}, {1}, {2}, {0x7f}, {0x80}, unhex("8101"), unhex("8180"), unhex("81ff"), unhex("820001"), unhex("820100"), unhex("820101"), unhex("b80101"),
		{0xc0}, {0xc1, 0x80}, {0xc1, 1}, {0xc1, 0}, {0xc1, 0xc0}, unhex("c2 01 01"), unhex("c2 8101"), unhex("c2 8180"), unhex("f800"), unhex("f80101"),
		plainText(bytes.Repeat([]byte{9}, 8)), plainText(bytes.Repeat([]byte{9}, 9)), plainText(make([]byte, 256)), plainText(make([]byte, 257)),
		plainList(slices.Repeat([][]byte{{1}}, 8)...), plainList(slices.Repeat([][]byte{{1}}, 9)...),
	}
}

// Lists of nine in which any two things, or some more, are others.
func TestP162P164DecodeOfListsOfAnyThings(t *testing.T) {
	parts, some := anyParts(), bases()[:4]
	taken, left := 0, 0
	check := func(l [][]byte) {
		if checked(t, plainList(l...)) {
			taken++
		} else {
			left++
		}
	}
	for _, base := range some {
		for first := range things {
			for second := range first {
				for i := range len(parts) * len(parts) {
					l := slices.Clone(base)
					l[first], l[second] = parts[i/len(parts)], parts[i%len(parts)]
					check(l)
				}
			}
		}
	}
	next := roll(61)
	for range 50000 {
		l := slices.Clone(some[next(len(some))])
		for range 3 + next(7) {
			l[next(things)] = parts[next(len(parts))]
		}
		check(l)
	}
	if taken == 0 || left == 0 {
		t.Errorf("P16.2: %d were taken, %d refused", taken, left)
	}
}

func TestP162DecodeOfFewBytes(t *testing.T) {
	for i := range 1 << 16 {
		refused(t, "a byte", []byte{byte(i)})
		refused(t, "two bytes", []byte{byte(i >> 8), byte(i)})
		refused(t, "three bytes", []byte{byte(i >> 8), byte(i), 0})
		// Behind the head of a list of nine bytes.
		checked(t, []byte{0xc9, byte(i >> 8), byte(i), 0x80, 0x80, 0x80, 0x80, 0xc0, 0x80, 0x80})
		checked(t, []byte{0xc9, 0x80, 0x80, 0x80, 0x80, 0x80, 0x80, 0xc0, byte(i >> 8), byte(i)})
		checked(t, []byte{0xc9, 0x80, 0x80, 0x80, 0x80, 0x80, byte(i >> 8), byte(i), 0x80, 0x80})
	}
}

func TestP162DecodeOfMuch(t *testing.T) {
	for _, b := range [][]byte{
		make([]byte, 1<<20), bytes.Repeat([]byte{0x80}, 1<<20), bytes.Repeat([]byte{0xc0}, 1<<20), bytes.Repeat([]byte{0xc1}, 1<<20), bytes.Repeat([]byte{0xff}, 1<<20),
		append(unhex("fa100000"), bytes.Repeat([]byte{0x80}, 1<<20)...),
		append(unhex("fa100000"), bytes.Repeat([]byte{0xc0}, 1<<20)...),
		append(unhex("fa100000"), bytes.Repeat([]byte{0xc1}, 1<<20)...),
		append(unhex("fa10000c 80 80 80 80 80 80 c0 01 ba100000"), make([]byte, 1<<20)...),
		append(plainEncode(api.Tx{}), make([]byte, 1<<20)...),
		calls(bytes.Repeat([]byte{5}, 1<<20)), calls(bytes.Repeat([]byte{0xc0}, 1<<20)),
		unhex("c9 80 80 80 80 80 80 c7 c6 c5 c4 c3 c2 c1 c0"), unhex("d2 80 80 80 80 80 80 c8 c7 c6 c5 c4 c3 c2 c1 c0 80 80"), unhex("d1 80 80 80 80 80 80 c7 c6 c5 c4 c3 c2 c1 c0 80 80"),
	} {
		refused(t, "much", b)
	}
}
