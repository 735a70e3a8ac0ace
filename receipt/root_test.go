package receipt_test

import (
	"slices"
	"testing"

	"pergola/api"
	"pergola/bulk"
	"pergola/digest"
	"pergola/node"
	"pergola/receipt"
)

// rooted holds Root of what is Right against the trie that it is the root of, and against bulk.List.
func rooted(t *testing.T, l []api.Receipt) api.Digest {
	t.Helper()
	var encodings [][]byte
	for _, r := range l {
		encodings = append(encodings, plainEncode(r))
	}
	want, ok := plainRoot(l)
	listed, _ := bulk.List(encodings)
	d, e := receipt.Root(l)
	if !ok || d != want || d != listed || e != api.OK {
		t.Fatalf("P18.3: Root(%+v) = %x %d, not %x", l, d, e, want)
	}
	return d
}

func TestP183RootOfNone(t *testing.T) {
	for _, l := range [][]api.Receipt{nil, {}} {
		if d, e := receipt.Root(l); d != node.EmptyRoot() || d != digest.Of([]byte{0x80}) || e != api.OK {
			t.Errorf("P18.3: Root of none = %x %d", d, e)
		}
	}
}

// The topmost node of a trie of one receipt, worked out by hand: a leaf with the path of the place 0, and the digest of the receipt's bytes.
func TestP183RootOfOneByHand(t *testing.T) {
	for _, r := range few() {
		name := digest.Of(plainEncode(r))
		leaf := slices.Concat(unhex("eb 89 20 0000000000000000 a0"), name[:])
		if d, e := receipt.Root([]api.Receipt{r}); d != digest.Of(leaf) || e != api.OK {
			t.Errorf("P18.3: Root of %+v alone = %x %d, not the digest of %x", r, d, e, leaf)
		}
	}
}

func TestP183RootOfSome(t *testing.T) {
	seen := map[api.Digest]int{}
	all := few()
	for count := range len(all) + 1 {
		d := rooted(t, all[:count])
		if other, ok := seen[d]; ok {
			t.Errorf("P18.3: the first %d and the first %d have one Root", other, count)
		}
		seen[d] = count
	}
	for count := range 40 {
		rooted(t, make([]api.Receipt, count))
		rooted(t, many(uint64(count), count))
	}
	for _, count := range []int{255, 256, 257, 1000, 5000} {
		rooted(t, many(7, count))
	}
}

func TestP183RootHangsOnTheOrder(t *testing.T) {
	a, b := ended(api.Done, 100, 0, 0), ended(api.Reverted, 100, 1, 0)
	if rooted(t, []api.Receipt{a, b}) == rooted(t, []api.Receipt{b, a}) {
		t.Error("P18.3: Root of two does not tell their order")
	}
	if rooted(t, []api.Receipt{a}) == rooted(t, []api.Receipt{a, a}) {
		t.Error("P18.3: Root of two does not tell them from one")
	}
}

func TestP183RootOfWhatIsNotRight(t *testing.T) {
	for _, wrong := range fewWrongs() {
		for count := range 18 {
			l := make([]api.Receipt, count+1)
			for i := range l {
				row := slices.Clone(l)
				row[i] = wrong
				if d, e := receipt.Root(row); d != (api.Digest{}) || e != api.ErrReceiptForm {
					t.Fatalf("P18.3: Root of %d of which the one at %d is %+v = %x %d", len(row), i, wrong, d, e)
				}
			}
		}
		if d, e := receipt.Root([]api.Receipt{wrong, wrong}); d != (api.Digest{}) || e != api.ErrReceiptForm {
			t.Errorf("P18.3: Root of %+v twice = %x %d", wrong, d, e)
		}
		l := append(many(3, 1000), wrong)
		if d, e := receipt.Root(l); d != (api.Digest{}) || e != api.ErrReceiptForm {
			t.Errorf("P18.3: Root of many and %+v = %x %d", wrong, d, e)
		}
	}
	for _, wrong := range wrongs() {
		if d, e := receipt.Root([]api.Receipt{{}, wrong}); d != (api.Digest{}) || e != api.ErrReceiptForm {
			t.Fatalf("P18.3: Root of %+v = %x %d", wrong, d, e)
		}
	}
}
