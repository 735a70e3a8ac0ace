package nibbles_test

import (
	"bytes"
	"testing"

	"pergola/nibbles"
)

type teller struct {
	name string
	tell func([]byte) []byte
}

// paths and others are the calls that tell a list.
func paths() []teller {
	return []teller{
		{"Of", nibbles.Of},
		{"Unpack", func(b []byte) []byte { p, _, _ := nibbles.Unpack(b); return p }},
	}
}

func others() []teller {
	return []teller{
		{"Key", func(p []byte) []byte { key, _ := nibbles.Key(p); return key }},
		{"Pack to a leaf", func(p []byte) []byte { b, _ := nibbles.Pack(p, true); return b }},
		{"Pack to none", func(p []byte) []byte { b, _ := nibbles.Pack(p, false); return b }},
	}
}

func tellers() []teller { return append(paths(), others()...) }

// samples are bytes that each call takes, and some that it refuses.
func samples() [][]byte {
	return append(rows(4, 0, 3, 15), append(rows(3, 0x10, 0x1a, 0x20, 0x3f, 0x40), manyBytes()...)...)
}

// scribble writes over a list and its spare room.
func scribble(b []byte) {
	all := b[:cap(b)]
	for i := range all {
		all[i] ^= 0xa5
	}
}

const spare = "\x01\x02\x03\x04 spare room"

// roomy tells a copy of b with spare room behind it, and both together.
func roomy(b []byte) (given, all []byte) {
	all = append(bytes.Clone(b), spare...)
	return all[:len(b)], all
}

func TestR5WhatIsHandedInStaysAsItIs(t *testing.T) {
	for _, b := range samples() {
		given, all := roomy(b)
		nibbles.Right(given)
		nibbles.Common(given, given)
		nibbles.Less(given, given)
		for _, k := range tellers() {
			scribble(k.tell(given))
			if string(all) != string(b)+spare {
				t.Fatalf("R5: %s(%x): what was handed in, and its spare room, became %x", k.name, b, all)
			}
		}
	}
}

func TestR5WhatIsHandedInIsNotKept(t *testing.T) {
	for _, k := range tellers() {
		for _, b := range samples() {
			want := string(k.tell(b))
			given, all := roomy(b)
			told := k.tell(given)
			scribble(all)
			if string(told) != want {
				t.Fatalf("R5: %s(%x): writing over what was handed in is seen in what was told", k.name, b)
			}
			if got := k.tell(b); string(got) != want {
				t.Fatalf("R5: %s(%x) = %x, later than writing over what was handed in", k.name, b, got)
			}
		}
	}
}

func TestR5WhatIsToldIsNewMemory(t *testing.T) {
	for _, k := range tellers() {
		for _, b := range samples() {
			first, second := k.tell(b), k.tell(b)
			want := string(second)
			scribble(first)
			if string(second) != want || string(k.tell(b)) != want {
				t.Fatalf("R5: %s(%x): writing over what was told is seen in what was told else", k.name, b)
			}
		}
	}
}

func TestR5WhatIsWrittenBehindWhatWasTold(t *testing.T) {
	for _, k := range tellers() {
		for _, b := range samples() {
			first, second := k.tell(b), k.tell(b)
			one, other := append(first, "one"...), append(first, "other"...)
			far := append(second, "far"...)
			want := string(k.tell(b))
			if string(first) != want || string(second) != want || string(other) != want+"other" || string(far) != want+"far" {
				t.Fatalf("R5: %s(%x): what was written behind it is seen elsewhere: %x %x", k.name, b, one, other)
			}
		}
	}
}

func TestPathsAreCutWithTheirEnd(t *testing.T) {
	for _, k := range paths() {
		for _, b := range samples() {
			if p := k.tell(b); cap(p) != len(p) {
				t.Fatalf("P4 Ways: behind %s(%x) there is room for %d", k.name, b, cap(p)-len(p))
			}
		}
	}
}

func TestR4NilAndEmptyAreTheSame(t *testing.T) {
	for _, k := range tellers() {
		if none, empty := k.tell(nil), k.tell([]byte{}); !bytes.Equal(none, empty) {
			t.Errorf("R4: %s of nil is %x, and of an empty list %x", k.name, none, empty)
		}
	}
	if nibbles.Common(nil, []byte{}) != 0 || nibbles.Less(nil, []byte{}) || nibbles.Less([]byte{}, nil) {
		t.Error("R4: nil and an empty list are not alike")
	}
}
