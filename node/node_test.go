package node_test

import (
	"bytes"
	"encoding/hex"
	"slices"
	"strings"
	"testing"

	"pergola/api"
	"pergola/digest"
	"pergola/node"
)

func TestP52P53ByteByByte(t *testing.T) {
	kid := "d3808080c22005" + strings.Repeat("80", 12) + "06"
	digest := strings.Repeat("00", 31) + "07"
	seven := api.Ref{Kind: api.RefDigest, Digest: api.Digest{31: 7}}
	for _, k := range []struct {
		n    api.Node
		want string
	}{
		{leaf("", []byte{5}), "c22005"},
		{leaf("12", []byte{5}), "c482201205"},
		{leaf("1", []byte{128}), "c3318180"},
		{leaf("f", []byte{0}), "c23f00"},
		{leaf("", []byte("dog")), "c52083646f67"},
		{leaf("", make([]byte, 32)), "e220a0" + strings.Repeat("00", 32)},
		{leaf(strings.Repeat("0", 64), []byte{1}), "e3a120" + strings.Repeat("00", 32) + "01"},
		{leaf("", make([]byte, 256)), "f9010420b90100" + strings.Repeat("00", 256)},
		{shortBranch(1), kid},
		{ext("1", inline(unhex(kid))), "d511" + kid},
		{ext("12", inline(unhex(kid))), "d7820012" + kid},
		{ext("f", seven), "e21fa0" + digest},
		{ext("00", api.Ref{Kind: api.RefDigest}), "e4820000a0" + strings.Repeat("00", 32)},
		{branch(nil, seven, none, seven), "f851a0" + digest + "80a0" + digest + strings.Repeat("80", 14)},
		{branch(nil, within(small), within(small)), "d5c22005c22005" + strings.Repeat("80", 15)},
		{branch([]byte{200}, none, within(ext("1", inline(unhex(kid))))), "e780d511" + kid + strings.Repeat("80", 14) + "81c8"},
	} {
		b, e := node.Encode(k.n)
		if hex.EncodeToString(b) != k.want || e != api.OK {
			t.Errorf("P5.2: Encode = %x %d, not %s", b, e, k.want)
		}
		n, e := node.Decode(unhex(k.want))
		if !sameNode(n, k.n) || e != api.OK {
			t.Errorf("P5.3: Decode(%s) = %+v %d", k.want, n, e)
		}
	}
}

func TestP52EncodeOfEachNode(t *testing.T) {
	for _, n := range rightNodes() {
		b, e := node.Encode(n)
		if want := plainEncode(n); !bytes.Equal(b, want) || e != api.OK {
			t.Fatalf("P5.2: Encode of %+v = %x %d, not %x", n, b, e, want)
		}
	}
}

func TestP53DecodeRefuses(t *testing.T) {
	text := func(n int) string { return hex.EncodeToString(plainText(bytesFrom(0xa0, n))) }
	list := func(l ...string) string { return hex.EncodeToString(plainList(unhex(strings.Join(l, "")))) }
	kids := func(n int) string { return strings.Repeat("c22005", n) }
	branch20 := hex.EncodeToString(plainEncode(shortBranch(1)))
	for why, b := range map[string]string{
		"nothing":                              "",
		"a text":                               "80",
		"a text of one byte":                   "05",
		"a text of 32 bytes":                   text(32),
		"a text that holds a node":             "83c22005",
		"a short list":                         "c220",
		"a length that could be shorter":       "f8022005",
		"a value that could be shorter":        "c3208105",
		"a byte behind a node":                 "c2200500",
		"a node behind a node":                 "c22005c22005",
		"lists too deep":                       "c9c8c7c6c5c4c3c2c1c0",
		"a list of none":                       "c0",
		"a list of one":                        "c120",
		"a list of one list":                   list("c22005"),
		"a list of three":                      "c3200505",
		"a list of three, with a child":        list("11", branch20, "80"),
		"a list of 15":                         list(kids(15)),
		"a list of 16":                         list(kids(16)),
		"a list of 18":                         list(kids(16), "0505"),
		"a list of 18 with none behind":        list(kids(16), "0580"),
		"a packed path of no bytes":            "c28005",
		"a packed path with the flag 4":        "c24005",
		"a packed path with the flag 15":       "c381f005",
		"a leaf's even path filled by no 0":    "c22105",
		"an extension's path filled by no 0":   list("01", branch20),
		"a packed path that is a list":         "c3c12005",
		"a packed path that is an empty list":  "c2c005",
		"a leaf of 65 nibbles":                 list(hex.EncodeToString(plainText(plainPack(nibblesOf(way(65)), 2))), "05"),
		"a leaf of 66 nibbles":                 list(hex.EncodeToString(plainText(plainPack(nibblesOf(way(66)), 2))), "05"),
		"a leaf without a value":               "c22080",
		"a leaf with a list as its value":      "c220c0",
		"a leaf with a node as its value":      list("20", "c22005"),
		"a leaf with 257 bytes":                list("20", text(257)),
		"an extension without a path":          list("00", branch20),
		"an extension of 65 nibbles":           list(hex.EncodeToString(plainText(plainPack(nibblesOf(way(65)), 0))), branch20),
		"an extension without a child":         "c21180",
		"an extension with a child of a byte":  "c21105",
		"an extension to 31 bytes":             list("11", text(31)),
		"an extension to 33 bytes":             list("11", text(33)),
		"an extension to an empty list":        "c211c0",
		"an extension to a leaf":               list("11", "c22005"),
		"an extension to an extension":         list("11", list("11", branch20)),
		"an extension to a branch of 32 bytes": list("11", hex.EncodeToString(plainEncode(shortBranch(12)))),
		"an extension to a wrong branch":       list("11", list(kids(1), strings.Repeat("80", 16))),
		"a branch of nothing":                  list(strings.Repeat("80", 17)),
		"a branch of one kid":                  list(kids(1), strings.Repeat("80", 16)),
		"a branch of one digest":               list(text(32), strings.Repeat("80", 16)),
		"a branch of a value":                  list(strings.Repeat("80", 16), "05"),
		"a branch with a kid of a byte":        list(kids(15), "0505"),
		"a branch with a kid of 31 bytes":      list(kids(15), text(31), "05"),
		"a branch with a kid of 33 bytes":      list(kids(15), text(33), "05"),
		"a branch with an empty list as a kid": list(kids(15), "c005"),
		"a branch with a wrong kid":            list(kids(15), "c2208005"),
		"a branch with a leaf of 32 bytes":     list(kids(15), hex.EncodeToString(plainEncode(leaf("", bytesFrom(1, 29)))), "05"),
		"a branch with an empty list behind":   list(kids(16), "c0"),
		"a branch with a node as its value":    list(kids(16), "c22005"),
		"a branch with 257 bytes":              list(kids(16), text(257)),
	} {
		if n, e := node.Decode(unhex(b)); !nothing(n) || e != api.ErrNodeForm {
			t.Errorf("P5.3: Decode of %s, %s = %+v %d, not ErrNodeForm", why, b, n, e)
		}
	}
}

// Of all bytes that are few, those alone are taken that a node is written as.
func TestP53DecodeOfAllFewBytes(t *testing.T) {
	written := map[[3]byte]api.Node{}
	for _, p := range append(strings.Split("0123456789abcdef", ""), "") {
		for v := range 128 {
			n := leaf(p, []byte{byte(v)})
			written[[3]byte(plainEncode(n))] = n
		}
	}
	for i := range 1 << 16 {
		for _, b := range [][]byte{{byte(i)}, {byte(i >> 8), byte(i)}} {
			if n, e := node.Decode(b); !nothing(n) || e != api.ErrNodeForm {
				t.Fatalf("P5.3: Decode(%x) = %+v %d", b, n, e)
			}
		}
	}
	for i := range 1 << 24 {
		b := [3]byte{byte(i >> 16), byte(i >> 8), byte(i)}
		if b[0] < 0xc0 && b[2]%16 != 5 { // texts: some of them will do
			continue
		}
		n, e := node.Decode(b[:])
		if want, ok := written[b]; !sameNode(n, want) || (e == api.OK) != ok || !ok && e != api.ErrNodeForm {
			t.Fatalf("P5.3: Decode(%x) = %+v %d", b, n, e)
		}
	}
}

// turned are bytes that are one step from those of a node.
func turned(b []byte) [][]byte {
	var l [][]byte
	for i := range b {
		for v := range 256 {
			c := bytes.Clone(b)
			c[i] = byte(v)
			l = append(l, c)
		}
		l = append(l, b[:i], b[i:], slices.Delete(bytes.Clone(b), i, i+1))
		for _, v := range []byte{0, 0x20, 0x80, 0x81, 0xa0, 0xc0, 0xff} {
			l = append(l, slices.Insert(bytes.Clone(b), i, v))
		}
	}
	for v := range 256 {
		l = append(l, append(bytes.Clone(b), byte(v)))
	}
	return l
}

func checkDecode(t *testing.T, b []byte) bool {
	t.Helper()
	n, e := node.Decode(b)
	want, ok := plainDecode(b)
	if !sameNode(n, want) || (e == api.OK) != ok || !ok && e != api.ErrNodeForm {
		t.Fatalf("P5.3: Decode(%x) = %+v %d, not %+v", b, n, e, want)
	}
	if !ok {
		return false
	}
	if again, e := node.Encode(n); !node.Right(n) || !bytes.Equal(again, b) || e != api.OK {
		t.Fatalf("P5.6: Encode(Decode(%x)) = %x %d", b, again, e)
	}
	return true
}

func TestP53P56DecodeOfTurnedBytes(t *testing.T) {
	taken := 0
	for _, n := range short() {
		for _, b := range turned(plainEncode(n)) {
			if checkDecode(t, b) {
				taken++
			}
		}
	}
	if taken == 0 {
		t.Error("P5.3: none was taken")
	}
}

// Lists of each number of things of each form, right and wrong.
func TestP53DecodeOfListsOfAnyNumber(t *testing.T) {
	parts := [][]byte{{0x80}, {0x05}, {0x11}, {0x20}, {0x81, 0x80}, {0xc0}, plainText(bytesFrom(1, 31)), plainText(bytesFrom(1, 32)), plainText(bytesFrom(1, 33)), plainText(make([]byte, 32))}
	for _, r := range refs() {
		if len(r.Inline) > 0 {
			parts = append(parts, r.Inline)
		}
	}
	for count := range 20 {
		for _, one := range parts {
			for _, other := range parts {
				l := make([][]byte, count)
				for i := range l {
					l[i] = one
					if i == 0 || i == 3 || i == 16 {
						l[i] = other
					}
				}
				checkDecode(t, plainList(l...))
				if count > 0 {
					l[count-1] = []byte{0x80}
					checkDecode(t, plainList(l...))
				}
			}
		}
	}
}

func TestP53DecodeOfMuch(t *testing.T) {
	for _, b := range [][]byte{
		make([]byte, 1<<20), bytes.Repeat([]byte{0xc1}, 1<<20), bytes.Repeat([]byte{0xff}, 1<<20),
		append([]byte{0xfa, 0x10, 0, 0}, make([]byte, 1<<20)...),
		append([]byte{0xfa, 0x10, 0, 5, 0x20, 0xba, 0x10, 0, 0}, make([]byte, 1<<20)...),
		append([]byte{0xfa, 0x10, 0, 5, 0x11, 0xfa, 0x10, 0, 0}, make([]byte, 1<<20)...),
	} {
		if n, e := node.Decode(b); !nothing(n) || e != api.ErrNodeForm {
			t.Errorf("P5.3: Decode(%.8x..) = %+v %d", b, n, e)
		}
	}
}

func TestP54Refer(t *testing.T) {
	for n := range 200 {
		b := bytesFrom(byte(n), n)
		want := api.Ref{Kind: api.RefInline, Inline: b}
		if n >= 32 {
			want = api.Ref{Kind: api.RefDigest, Digest: digest.Of(b)}
		}
		if r := node.Refer(b); !sameRef(r, want) {
			t.Errorf("P5.4: Refer of %d bytes = %+v", n, r)
		}
	}
	long := bytesFrom(0, 1<<20)
	if r := node.Refer(long); !sameRef(r, api.Ref{Kind: api.RefDigest, Digest: digest.Of(long)}) {
		t.Errorf("P5.4: Refer of many bytes = %+v", r)
	}
	if r := node.Refer(nil); !sameRef(r, api.Ref{Kind: api.RefInline}) {
		t.Errorf("P5.4: Refer of nothing = %+v", r)
	}
}

// What Refer tells of a node is a right reference to it.
func TestP54ReferOfNodes(t *testing.T) {
	for _, n := range rightNodes() {
		b, _ := node.Encode(n)
		r := node.Refer(b)
		if !node.Right(branch([]byte{6}, r)) {
			t.Fatalf("P5.4: Refer(%x) = %+v is not right", b, r)
		}
		if got := node.Right(ext("1", r)); got != (n.Kind == api.Branch || len(b) >= 32) {
			t.Fatalf("P5.1: an extension to %+v: %v", r, got)
		}
	}
}

func TestP55EmptyRootAndEmptyCode(t *testing.T) {
	if node.EmptyRoot() != digest.Of([]byte{0x80}) || node.EmptyCode() != digest.Of(nil) {
		t.Errorf("P5.5: %x, %x", node.EmptyRoot(), node.EmptyCode())
	}
	if node.EmptyRoot() == node.EmptyCode() || node.EmptyRoot() == (api.Digest{}) || node.EmptyCode() == (api.Digest{}) {
		t.Errorf("P5.5: %x, %x", node.EmptyRoot(), node.EmptyCode())
	}
}

func TestP56ThereAndBack(t *testing.T) {
	for _, n := range rightNodes() {
		b, e := node.Encode(n)
		if e != api.OK {
			t.Fatalf("P5.6: Encode of %+v: %d", n, e)
		}
		m, e := node.Decode(b)
		if !sameNode(n, m) || e != api.OK {
			t.Fatalf("P5.6: Decode(Encode(%+v)) = %+v %d", n, m, e)
		}
		if again, e := node.Encode(m); !bytes.Equal(again, b) || e != api.OK {
			t.Fatalf("P5.6: Encode(Decode(%x)) = %x %d", b, again, e)
		}
	}
}

func TestP56UnlikeNodesHaveUnlikeEncodings(t *testing.T) {
	written := map[string]api.Node{}
	for _, n := range rightNodes() {
		b, _ := node.Encode(n)
		if m, ok := written[string(b)]; ok && !sameNode(n, m) {
			t.Fatalf("P5.6: %x is both %+v and %+v", b, n, m)
		}
		written[string(b)] = n
	}
}

func TestP57ABranchIsLong(t *testing.T) {
	least := 1 << 20
	for _, n := range rightBranches() {
		b, _ := node.Encode(n)
		least = min(least, len(b))
	}
	if least < 18 {
		t.Error("P5.7: a branch of", least, "bytes")
	}
	// A list of 17 things in fewer than 18 bytes there is not: no such bytes are a branch.
	for size := range 18 {
		b := append([]byte{0xc0 + byte(max(size-1, 0))}, bytes.Repeat([]byte{0x80}, max(size-1, 0))...)
		for _, c := range append(turned(b), b) {
			if n, _ := node.Decode(c); n.Kind == api.Branch && len(c) < 18 {
				t.Fatalf("P5.7: %x is a branch", c)
			}
		}
	}
}

// A branch with a branch in it is too long to be inline, in whatever way it stands there.
func TestP57NoBranchWithinAnInlineBranch(t *testing.T) {
	least := within(shortBranch(1))
	for _, r := range []api.Ref{least, within(ext("1", least))} {
		n := branch([]byte{1}, r)
		b, e := node.Encode(n)
		if e != api.OK || len(b) < 32 {
			t.Fatalf("P5.7: a branch with a branch in it: %x %d", b, e)
		}
		if node.Refer(b).Kind != api.RefDigest || node.Right(branch(nil, inline(b), least)) || node.Right(ext("1", inline(b))) {
			t.Errorf("P5.7: %x is inline", b)
		}
	}
	for _, n := range rightNodes() {
		if b, _ := node.Encode(n); len(b) >= 32 || n.Kind != api.Branch {
			continue
		}
		for _, r := range n.Kids {
			if kid, _ := node.Decode(r.Inline); kid.Kind == api.Branch || kid.Kind == api.Ext {
				t.Fatalf("P5.7: an inline branch with the kid %+v", kid)
			}
		}
	}
}
