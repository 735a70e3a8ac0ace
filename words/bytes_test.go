package words_test

import (
	"bytes"
	"testing"

	"pergola/words"
)

func TestP32BytesOfEachWord(t *testing.T) {
	for n, want := range map[uint64]string{
		0:         "",
		1:         "\x01",
		255:       "\xff",
		256:       "\x01\x00",
		65535:     "\xff\xff",
		65536:     "\x01\x00\x00",
		1<<32 - 1: "\xff\xff\xff\xff",
		1 << 32:   "\x01\x00\x00\x00\x00",
		1<<56 - 1: "\xff\xff\xff\xff\xff\xff\xff",
		1 << 56:   "\x01\x00\x00\x00\x00\x00\x00\x00",
		1 << 63:   "\x80\x00\x00\x00\x00\x00\x00\x00",
		m:         "\xff\xff\xff\xff\xff\xff\xff\xff",
	} {
		if got := words.Bytes(n); string(got) != want {
			t.Errorf("P3.2: Bytes(%d) = %x, not %x", n, got, want)
		}
		if got, ok := words.Read([]byte(want)); got != n || !ok {
			t.Errorf("P3.2: Read(%x) = %d %v, not %d", want, got, ok, n)
		}
	}
	for _, n := range edges() {
		if got := words.Bytes(n); !bytes.Equal(got, plainBytes(n)) {
			t.Errorf("P3.2: Bytes(%d) = %x, not %x", n, got, plainBytes(n))
		}
	}
}

func TestP32ReadRefusesWhatIsNoWordsBytes(t *testing.T) {
	for _, s := range []string{
		"\x00", "\x00\x00", "\x00\x01", "\x00\xff", "\x00\x01\x02\x03\x04\x05\x06\x07",
		"\x00\x00\x00\x00\x00\x00\x00\x00", "123456789", "\x01\x00\x00\x00\x00\x00\x00\x00\x00",
		"\x00\xff\xff\xff\xff\xff\xff\xff\xff", "\x00\x00\x00\x00\x00\x00\x00\x00\x00", "0123456789abcdef",
	} {
		if n, ok := words.Read([]byte(s)); n != 0 || ok {
			t.Errorf("P3.2: Read(%x) = %d %v, not 0 false", s, n, ok)
		}
	}
	for _, none := range [][]byte{nil, {}} {
		if n, ok := words.Read(none); n != 0 || !ok {
			t.Errorf("P3.2: Read of no bytes = %d %v, not 0 true", n, ok)
		}
	}
}

func TestP33KeyOfEachWord(t *testing.T) {
	for n, want := range map[uint64]string{
		0:       "\x00\x00\x00\x00\x00\x00\x00\x00",
		1:       "\x00\x00\x00\x00\x00\x00\x00\x01",
		255:     "\x00\x00\x00\x00\x00\x00\x00\xff",
		256:     "\x00\x00\x00\x00\x00\x00\x01\x00",
		258:     "\x00\x00\x00\x00\x00\x00\x01\x02",
		1 << 32: "\x00\x00\x00\x01\x00\x00\x00\x00",
		1 << 63: "\x80\x00\x00\x00\x00\x00\x00\x00",
		m:       "\xff\xff\xff\xff\xff\xff\xff\xff",
	} {
		if got := words.Key(n); string(got) != want {
			t.Errorf("P3.3: Key(%d) = %x, not %x", n, got, want)
		}
		if got, ok := words.Word([]byte(want)); got != n || !ok {
			t.Errorf("P3.3: Word(%x) = %d %v, not %d", want, got, ok, n)
		}
	}
	for _, n := range edges() {
		if got := words.Key(n); !bytes.Equal(got, plainKey(n)) {
			t.Errorf("P3.3: Key(%d) = %x, not %x", n, got, plainKey(n))
		}
	}
}

func TestP33WordRefusesAllButEightBytes(t *testing.T) {
	for length := range 20 {
		if length == 8 {
			continue
		}
		for _, fill := range []byte{0, 1, 255} {
			b := bytes.Repeat([]byte{fill}, length)
			if n, ok := words.Word(b); n != 0 || ok {
				t.Errorf("P3.3: Word(%x) = %d %v, not 0 false", b, n, ok)
			}
		}
	}
	if n, ok := words.Word(nil); n != 0 || ok {
		t.Errorf("P3.3: Word(nil) = %d %v, not 0 false", n, ok)
	}
}

// byteStrings are strings of up to ten bytes, with and without noughts ahead, inside and behind.
func byteStrings() [][]byte {
	var all [][]byte
	for length := range 11 {
		for _, fill := range []byte{0, 1, 127, 128, 255} {
			b := bytes.Repeat([]byte{fill}, length)
			all = append(all, b)
			for i := range b {
				for _, c := range []byte{0, 9} {
					other := bytes.Clone(b)
					other[i] = c
					all = append(all, other)
				}
			}
		}
	}
	return all
}

func TestP32P33ReadingTakesWhatWritingTells(t *testing.T) {
	for _, b := range byteStrings() {
		n, ok := words.Read(b)
		if want, wantOK := plainRead(b); n != want || ok != wantOK {
			t.Errorf("P3.2: Read(%x) = %d %v, not %d %v", b, n, ok, want, wantOK)
		}
		n, ok = words.Word(b)
		if want, wantOK := plainWordOf(b); n != want || ok != wantOK {
			t.Errorf("P3.3: Word(%x) = %d %v, not %d %v", b, n, ok, want, wantOK)
		}
	}
}

func TestP35BytesAndKeysThereAndBack(t *testing.T) {
	for _, n := range edges() {
		if got, ok := words.Read(words.Bytes(n)); got != n || !ok {
			t.Errorf("P3.5: Read(Bytes(%d)) = %d %v", n, got, ok)
		}
		if got, ok := words.Word(words.Key(n)); got != n || !ok {
			t.Errorf("P3.5: Word(Key(%d)) = %d %v", n, got, ok)
		}
	}
	for _, b := range byteStrings() {
		if n, ok := words.Read(b); ok && !bytes.Equal(words.Bytes(n), b) {
			t.Errorf("P3.5: Read(%x) = %d, whose Bytes are %x", b, n, words.Bytes(n))
		}
		if n, ok := words.Word(b); ok && !bytes.Equal(words.Key(n), b) {
			t.Errorf("P3.5: Word(%x) = %d, whose Key is %x", b, n, words.Key(n))
		}
	}
}

func TestP35KeysAreOrderedAsTheirWords(t *testing.T) {
	for _, a := range edges() {
		for _, b := range edges() {
			want := 0
			if a < b {
				want = -1
			} else if a > b {
				want = 1
			}
			if got := bytes.Compare(words.Key(a), words.Key(b)); got != want {
				t.Fatalf("P3.5: the keys of %d and %d are ordered %d, not %d", a, b, got, want)
			}
		}
	}
}

func TestR5WhatIsReadStaysAsItIs(t *testing.T) {
	for _, b := range byteStrings() {
		roomy := append(bytes.Clone(b), "spare room"...)
		given := roomy[:len(b)]
		words.Read(given)
		words.Word(given)
		if want := string(b) + "spare room"; string(roomy) != want {
			t.Fatalf("R5: %x became %x", want, roomy)
		}
	}
}

func TestR5WhatIsToldIsNewMemory(t *testing.T) {
	for _, write := range []func(uint64) []byte{words.Bytes, words.Key} {
		for _, n := range edges() {
			first, second := write(n), write(n)
			want := string(second)
			scribble(first)
			if string(second) != want || string(write(n)) != want {
				t.Fatalf("R5: writing over the bytes of %d is seen in other bytes", n)
			}
		}
	}
}

func TestR5WritingOverWhatWasReadIsNotSeen(t *testing.T) {
	b := words.Key(258)
	n, _ := words.Word(b)
	k, _ := words.Read(b[6:])
	scribble(b)
	if n != 258 || k != 258 || string(words.Key(n)) != "\x00\x00\x00\x00\x00\x00\x01\x02" {
		t.Errorf("R5: %d and %d, not 258", n, k)
	}
}

// scribble writes over b and its spare room.
func scribble(b []byte) {
	all := b[:cap(b)]
	for i := range all {
		all[i] ^= 0xa5
	}
}
