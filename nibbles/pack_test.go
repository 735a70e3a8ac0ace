package nibbles_test

import (
	"bytes"
	"testing"

	"pergola/api"
	"pergola/nibbles"
)

func TestP42P43PacksByteByByte(t *testing.T) {
	for _, k := range []struct {
		path string
		leaf bool
		want string
	}{
		{"", false, "\x00"},
		{"", true, "\x20"},
		{"0", false, "\x10"},
		{"0", true, "\x30"},
		{"a", false, "\x1a"},
		{"a", true, "\x3a"},
		{"f", false, "\x1f"},
		{"f", true, "\x3f"},
		{"00", false, "\x00\x00"},
		{"00", true, "\x20\x00"},
		{"12", false, "\x00\x12"},
		{"12", true, "\x20\x12"},
		{"ff", true, "\x20\xff"},
		{"123", false, "\x11\x23"},
		{"123", true, "\x31\x23"},
		{"1234", false, "\x00\x12\x34"},
		{"0123456789abcdef", true, "\x20\x01\x23\x45\x67\x89\xab\xcd\xef"},
		{"123456789abcdef", true, "\x31\x23\x45\x67\x89\xab\xcd\xef"},
	} {
		if b, e := nibbles.Pack(path(k.path), k.leaf); string(b) != k.want || e != api.OK {
			t.Errorf("P4.2: Pack(%s, %v) = %x %d, not %x", k.path, k.leaf, b, e, k.want)
		}
		if p, leaf, e := nibbles.Unpack([]byte(k.want)); !bytes.Equal(p, path(k.path)) || leaf != k.leaf || e != api.OK {
			t.Errorf("P4.3: Unpack(%x) = %x %v %d, not %s %v", k.want, p, leaf, e, k.path, k.leaf)
		}
	}
}

func TestP42PackRefusesWhatIsNotRight(t *testing.T) {
	for _, p := range append(wrongPaths(), []byte{16}, []byte{1, 16}, []byte{1, 2, 16}, []byte{255}) {
		for _, leaf := range []bool{false, true} {
			if b, e := nibbles.Pack(p, leaf); len(b) != 0 || e != api.ErrNibblesForm {
				t.Fatalf("P4.2: Pack(%x, %v) = %x %d, not ErrNibblesForm", p, leaf, b, e)
			}
		}
	}
}

func TestP42PackOfEachPath(t *testing.T) {
	for _, p := range rightPaths() {
		for _, leaf := range []bool{false, true} {
			b, e := nibbles.Pack(p, leaf)
			if want, wantE := plainPack(p, leaf); !bytes.Equal(b, want) || e != wantE {
				t.Fatalf("P4.2: Pack(%x, %v) = %x %d, not %x", p, leaf, b, e, want)
			}
		}
	}
}

func TestP43UnpackRefusesWhatPackDoesNotTell(t *testing.T) {
	for _, s := range []string{
		"", "\x01", "\x0f", "\x21", "\x2f", "\x01\x23", "\x2f\x00", "\x08\x00\x00",
		"\x40", "\x41", "\x4f", "\x50", "\x60", "\x70", "\x80", "\xff", "\x40\x12", "\xf0\x12", "\xff\x01",
	} {
		if p, leaf, e := nibbles.Unpack([]byte(s)); len(p) != 0 || leaf || e != api.ErrNibblesForm {
			t.Errorf("P4.3: Unpack(%x) = %x %v %d, not ErrNibblesForm", s, p, leaf, e)
		}
	}
	if p, leaf, e := nibbles.Unpack(nil); len(p) != 0 || leaf || e != api.ErrNibblesForm {
		t.Errorf("P4.3: Unpack(nil) = %x %v %d, not ErrNibblesForm", p, leaf, e)
	}
}

func TestP43UnpackOfAllBytes(t *testing.T) {
	for _, b := range keys() {
		p, leaf, e := nibbles.Unpack(b)
		want, wantLeaf, wantE := plainUnpack(b)
		if !bytes.Equal(p, want) || leaf != wantLeaf || e != wantE {
			t.Fatalf("P4.3: Unpack(%x) = %x %v %d, not %x %v %d", b, p, leaf, e, want, wantLeaf, wantE)
		}
	}
}

func TestP45PacksThereAndBack(t *testing.T) {
	for _, p := range rightPaths() {
		for _, leaf := range []bool{false, true} {
			b, _ := nibbles.Pack(p, leaf)
			if got, gotLeaf, e := nibbles.Unpack(b); !bytes.Equal(got, p) || gotLeaf != leaf || e != api.OK {
				t.Fatalf("P4.5: Unpack(Pack(%x, %v)) = %x %v %d", p, leaf, got, gotLeaf, e)
			}
		}
	}
	for _, b := range keys() {
		p, leaf, e := nibbles.Unpack(b)
		if e != api.OK {
			continue
		}
		if got, e := nibbles.Pack(p, leaf); !bytes.Equal(got, b) || e != api.OK {
			t.Fatalf("P4.5: Pack(Unpack(%x)) = %x %d", b, got, e)
		}
	}
}
