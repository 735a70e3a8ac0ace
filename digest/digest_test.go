package digest_test

import (
	"bytes"
	"strings"
	"testing"

	"pergola/api"
	"pergola/digest"
)

// made is a text of n bytes, no two neighbours alike.
func made(n int) []byte {
	b := make([]byte, n)
	for i := range b {
		b[i] = byte(i*7 + 3)
	}
	return b
}

// P1.1: the chapter's examples, and the longer one of the shared tests.
func TestOfExamples(t *testing.T) {
	for text, want := range map[string]string{
		"":                       "3ef7737d93249664b3e6c45d2909d9156598df76b0bd53a44722be3772359c1a",
		"a":                      "4dde7e275ce4d2f802d650389bfedbf4a3bf0767f93015e0e33b502e0585b114",
		"\x80":                   "47bafbf6521c15576198b161a4a90a5a0dbaa0620f2da81384ae0b2ab88351aa",
		strings.Repeat("ab", 12): "dd59cdedf50179bfc0552f5937d646ad8a792eb3a7a3e4e18245c1bcdabb9d65",
		strings.Repeat("ab", 40): "a34dd72ebba12fc48be855569e907de853683fa70bab3396111b68375a827f7e",
	} {
		if got := digest.Print(digest.Of([]byte(text))); got != want {
			t.Errorf("P1.1: %q: %s, not %s", text, got, want)
		}
	}
}

// P1.1: texts whose length meets the padding's edges; the digests were worked out by another program.
func TestOfEdges(t *testing.T) {
	for _, x := range []struct {
		length int
		want   string
	}{
		{1, "d2a0e1f093e36c3eaf70f447d16df54ce60ba607b29e6fdec11b5ebc87d6bb3b"},
		{7, "5bff1139216f22ad9a66501fbe11ffd670e15452a1340bac036e911787af7095"},
		{8, "a2a44396c959d05e126bda57064f0f7a0a1dc289307df6567b6d4fb1a7173c4e"},
		{22, "fa27082449e90f18ba7abc14298c51bf01cf8334a9a62b592b57c880f2480d17"},
		{23, "cfa812d6f4659ba45665afd8392b19afd9fa7e2ed43bc55a816d377881eb262e"},
		{24, "e3d29bbc5a565a3bf21c511d64b15904bcbc1a34c388020f11340879f454b710"},
		{25, "3ad678a689225023787788173cd5aa5ab28a3ded7d6b5eaa68c6154ae4f7197f"},
		{31, "e340ae34f8802de0ac4272b6b28eb2caf7824dd1222af97e1d0a694bc904e2e8"},
		{32, "7172197853be054596721aa34fdd3f0a9ed9755cd4d722f1877230da9e965a52"},
		{33, "8af135eebabbfcf20f38535bd6a292178430763294ed444eaa687e93397d3f82"},
		{54, "6637411d5c12ee7ca7a766e7ac02a95d9f073badc330bcc5c72c6fdaa155117c"},
		{55, "d696937aae62daf9b592c5e09eb4db3ed821a2dfefb8c1f9be1dce755dbfe856"},
		{56, "18d48db85ab03d48356dd825031d6406e9718a2e06854181b386a1a7f4d23153"},
		{57, "bb55aeb17ce9f31b547bf21ac9ce3ef6cae2b0a32b312c67b19548c9649662c1"},
		{63, "1e78979545dd22515a0f15b4623d0045adac93abd92baa4ea101b855c9678162"},
		{64, "fdc8d9025aeae2d861c14adf00711f871e999d8d556ed2ce4e2b4a175a1c2a33"},
		{65, "7cdd517d3e74ef31031d9a143b2c793d3b484165ca64437f85a64fdf769b4f56"},
		{1000, "91a753a34105e689dcf46e8d1e4a32430c2984a61929d39e8876ef18d84877fa"},
		{65537, "e62ad0d921e3de2f260b1c0a8415d90909ccc4b53bb533f25fd3facb6396320c"},
	} {
		if got := digest.Print(digest.Of(made(x.length))); got != x.want {
			t.Errorf("P1.1: %d bytes: %s, not %s", x.length, got, x.want)
		}
	}
}

// P1.1: every length over several pieces, of several fillings, against the plain working-out.
func TestOfPlain(t *testing.T) {
	for n := 0; n <= 200; n++ {
		for _, text := range [][]byte{made(n), make([]byte, n), bytes.Repeat([]byte{0x80}, n), bytes.Repeat([]byte{0xff}, n)} {
			if got, want := digest.Of(text), plain(text); got != want {
				t.Errorf("P1.1: %x: %x, not %x", text, got, want)
			}
		}
	}
}

// P1.1 and R4, R5, R6: a nil text is an empty one; nothing that is handed in is changed, or looked at behind its end.
func TestOfLeavesItsText(t *testing.T) {
	if digest.Of(nil) != digest.Of([]byte{}) {
		t.Error("R4: nil and empty")
	}
	room := made(100)
	before := digest.Of(room[:50])
	if !bytes.Equal(room, made(100)) {
		t.Error("R5: the text, or its spare room, was changed")
	}
	clear(room[50:])
	if digest.Of(room[:50]) != before {
		t.Error("R6: the spare room was looked at")
	}
}

// P1.2: what a Hash that has taken nothing answers, and one that has taken no bytes.
func TestHashOfNothing(t *testing.T) {
	h := digest.New()
	for _, b := range [][]byte{nil, {}, nil} {
		if h.Sum() != digest.Of(nil) || h.Len() != 0 {
			t.Fatal("P1.2: nothing was taken:", h.Sum(), h.Len())
		}
		h.Write(b)
	}
	if h.Sum() != digest.Of(nil) || h.Len() != 0 {
		t.Error("P1.2: no bytes were taken:", h.Sum(), h.Len())
	}
}

// P1.2: Sum and Len after each byte; asking changes nothing.
func TestHashByteByByte(t *testing.T) {
	text := made(200)
	h := digest.New()
	for i := range text {
		h.Write(text[i : i+1])
		want := plain(text[:i+1])
		for range 3 {
			if h.Sum() != want {
				t.Fatal("P1.2: Sum of so many bytes:", i+1)
			}
			if h.Len() != i+1 {
				t.Fatal("P1.2: Len:", h.Len(), "not", i+1)
			}
		}
	}
}

// P1.2 and R5: what was written is neither changed nor kept.
func TestHashKeepsNoText(t *testing.T) {
	for _, n := range []int{1, 31, 32, 33, 70} {
		room := made(100)
		h := digest.New()
		h.Write(room[:n])
		if !bytes.Equal(room, made(100)) {
			t.Error("R5: the text, or its spare room, was changed:", n)
		}
		clear(room)
		h.Write(room[:3])
		if want := plain(append(made(n), 0, 0, 0)); h.Sum() != want {
			t.Error("R5: the text was kept:", n)
		}
	}
}

// P1.2 and R6: one Hash knows nothing of another.
func TestHashesApart(t *testing.T) {
	g, h := digest.New(), digest.New()
	g.Write(made(40))
	h.Write(made(5))
	if g.Sum() != plain(made(40)) || h.Sum() != plain(made(5)) || digest.New().Len() != 0 {
		t.Error("R6: two that are one")
	}
}

// P1.2 and R7: a clone has taken the same, and then each goes its own way, at whatever place of a piece it was made.
func TestClone(t *testing.T) {
	for n := 0; n <= 70; n++ {
		h := digest.New()
		h.Write(made(n))
		c := h.Clone()
		if c.Sum() != plain(made(n)) || c.Len() != n {
			t.Fatal("R7: the clone is unlike:", n)
		}
		own, other := append(made(n), "its own way"...), append(made(n), bytes.Repeat([]byte("another"), 9)...)
		h.Write(own[n:])
		if c.Sum() != plain(made(n)) || c.Len() != n {
			t.Fatal("R7: the clone saw what was written behind it:", n)
		}
		c.Write(other[n:])
		if h.Sum() != plain(own) || h.Len() != len(own) {
			t.Fatal("R7: what was done to the clone was seen:", n)
		}
		if c.Sum() != plain(other) || c.Len() != len(other) {
			t.Fatal("R7: the clone did not go on:", n)
		}
	}
}

// P1.4: a text in two pieces, parted at every place; in three; in many of one size, empty ones among them.
func TestPiecesAreNotSeen(t *testing.T) {
	for _, n := range []int{1, 23, 24, 31, 32, 33, 64, 65, 97, 130} {
		text, want := made(n), digest.Of(made(n))
		for i := 0; i <= n; i++ {
			if sumOf(text[:i], text[i:]) != want {
				t.Errorf("P1.4: %d bytes, parted at %d", n, i)
			}
			if j := i + (n-i)/2; sumOf(text[:i], text[i:j], nil, text[j:]) != want {
				t.Errorf("P1.4: %d bytes, parted at %d and %d", n, i, j)
			}
		}
		for size := 1; size <= 40; size++ {
			var pieces [][]byte
			for i := 0; i < n; i += size {
				pieces = append(pieces, text[i:min(i+size, n)], []byte{})
			}
			if sumOf(pieces...) != want {
				t.Errorf("P1.4: %d bytes, in pieces of %d", n, size)
			}
		}
	}
}

// P1.4: very many small pieces, then a great one.
func TestManyPieces(t *testing.T) {
	text := made(100000)
	h := digest.New()
	for i := 0; i < 50000; i += 5 {
		h.Write(text[i : i+5])
	}
	h.Write(text[50000:])
	if h.Sum() != digest.Of(text) || h.Sum() != plain(text) || h.Len() != len(text) {
		t.Error("P1.4: many pieces")
	}
}

func sumOf(pieces ...[]byte) api.Digest {
	h := digest.New()
	for _, p := range pieces {
		h.Write(p)
	}
	return h.Sum()
}
