package receipt_test

import (
	"bytes"
	"testing"

	"pergola/api"
	"pergola/receipt"
)

func TestP181StatusAlone(t *testing.T) {
	for status, want := range map[int]bool{
		leastInt: false, -256: false, -1: false, api.Done: true, api.Reverted: true, api.NoGas: true, api.Overflow: true, api.Underflow: true,
		api.TooDeep: true, api.BadOp: true, api.BadJump: true, api.NoFunds: true, api.Taken: true, 10: false, 11: false, 255: false, 256: false,
		1 << 32: false, 1<<32 + 1: false, mostInt: false,
	} {
		for _, gas := range edges() {
			if got := receipt.Right(ended(status, gas, 0, 0)); got != want {
				t.Errorf("P18.1: Right of the Status %d and the Gas %d = %v", status, gas, got)
			}
		}
	}
}

func TestP181ResultAndMade(t *testing.T) {
	for status := range 10 {
		for _, n := range edges() {
			hasResult := n == 0 || status == api.Done || status == api.Reverted
			hasMade := n == 0 || status == api.Done
			for _, gas := range []uint64{0, 1, m} {
				if receipt.Right(ended(status, gas, n, 0)) != hasResult {
					t.Errorf("P18.1: Right of the Status %d and the Result %d", status, n)
				}
				if receipt.Right(ended(status, gas, 0, n)) != hasMade {
					t.Errorf("P18.1: Right of the Status %d and the Made %d", status, n)
				}
				if receipt.Right(ended(status, gas, n, n)) != hasMade {
					t.Errorf("P18.1: Right of the Status %d, the Result and the Made %d", status, n)
				}
			}
		}
	}
}

func TestP181Shapes(t *testing.T) {
	for _, r := range shapes() {
		if receipt.Right(r) != plainRight(r) {
			t.Fatalf("P18.1: Right(%+v) = %v", r, !plainRight(r))
		}
	}
}

func TestP182Example(t *testing.T) {
	for _, c := range []struct {
		r    api.Receipt
		want string
	}{
		{api.Receipt{}, "c4 80 80 80 80"},
		{api.Receipt{Status: api.Done, Gas: 100}, "c4 80 64 80 80"},
		{api.Receipt{Status: api.Reverted, Gas: 300, Result: 1}, "c6 01 82 01 2c 01 80"},
	} {
		b, e := receipt.Encode(c.r)
		if !bytes.Equal(b, unhex(c.want)) || e != api.OK {
			t.Errorf("P18.2: Encode(%+v) = %x %d, not %s", c.r, b, e, c.want)
		}
	}
	for _, r := range []api.Receipt{{Status: api.NoGas, Result: 1}, {Status: 10}, {Status: -1}, {Status: api.Reverted, Made: 5}} {
		if b, e := receipt.Encode(r); len(b) != 0 || e != api.ErrReceiptForm {
			t.Errorf("P18.2: Encode(%+v) = %x %d", r, b, e)
		}
	}
	for _, text := range []string{"c4 00 80 80 80", "c4 0a 80 80 80", ""} {
		if r, e := receipt.Decode(unhex(text)); r != (api.Receipt{}) || e != api.ErrReceiptForm {
			t.Errorf("P18.2: Decode(%s) = %+v %d", text, r, e)
		}
	}
}

func TestP182ByteByByte(t *testing.T) {
	for _, c := range []struct {
		r    api.Receipt
		want string
	}{
		{ended(0, 1, 2, 3), "c4 80 01 02 03"},
		{ended(0, 0, 0, 1), "c4 80 80 80 01"},
		{ended(0, 0, 1, 0), "c4 80 80 01 80"},
		{ended(0, 127, 128, 255), "c6 80 7f 81 80 81 ff"},
		{ended(0, 255, 127, 128), "c6 80 81 ff 7f 81 80"},
		{ended(0, 128, 255, 127), "c6 80 81 80 81 ff 7f"},
		{ended(0, 256, 65535, 65536), "cb 80 82 01 00 82 ff ff 83 01 00 00"},
		{ended(1, 5, 6, 0), "c4 01 05 06 80"},
		{ended(1, 0, m, 0), "cc 01 80 88 ff ff ff ff ff ff ff ff 80"},
		{ended(2, 7, 0, 0), "c4 02 07 80 80"},
		{ended(3, 7, 0, 0), "c4 03 07 80 80"},
		{ended(4, 7, 0, 0), "c4 04 07 80 80"},
		{ended(5, 7, 0, 0), "c4 05 07 80 80"},
		{ended(6, 7, 0, 0), "c4 06 07 80 80"},
		{ended(7, 7, 0, 0), "c4 07 07 80 80"},
		{ended(8, 7, 0, 0), "c4 08 07 80 80"},
		{ended(9, 7, 0, 0), "c4 09 07 80 80"},
		{ended(9, 1<<56, 0, 0), "cc 09 88 01 00 00 00 00 00 00 00 80 80"},
		{ended(0, m, m, m), "dc 80 88 ff ff ff ff ff ff ff ff 88 ff ff ff ff ff ff ff ff 88 ff ff ff ff ff ff ff ff"},
	} {
		want := unhex(c.want)
		if b, e := receipt.Encode(c.r); !bytes.Equal(b, want) || e != api.OK {
			t.Errorf("P18.2: Encode(%+v) = %x %d, not %s", c.r, b, e, c.want)
		}
		if r, e := receipt.Decode(want); r != c.r || e != api.OK {
			t.Errorf("P18.2: Decode(%s) = %+v %d, not %+v", c.want, r, e, c.r)
		}
	}
}

func TestP182EncodeOfEachReceipt(t *testing.T) {
	for _, r := range samples() {
		if b, e := receipt.Encode(r); !bytes.Equal(b, plainEncode(r)) || e != api.OK {
			t.Fatalf("P18.2: Encode(%+v) = %x %d, not %x", r, b, e, plainEncode(r))
		}
	}
	for _, r := range append(wrongs(), fewWrongs()...) {
		if b, e := receipt.Encode(r); len(b) != 0 || e != api.ErrReceiptForm {
			t.Fatalf("P18.2: Encode(%+v) = %x %d, not ErrReceiptForm", r, b, e)
		}
	}
}

func TestP184ThereAndBack(t *testing.T) {
	written := map[string]api.Receipt{}
	for _, r := range samples() {
		b, _ := receipt.Encode(r)
		got, e := receipt.Decode(b)
		if got != r || e != api.OK {
			t.Fatalf("P18.4: Decode(Encode(%+v)) = %+v %d", r, got, e)
		}
		if again, e := receipt.Encode(got); !bytes.Equal(again, b) || e != api.OK {
			t.Fatalf("P18.4: Encode(Decode(%x)) = %x %d", b, again, e)
		}
		if other, ok := written[string(b)]; ok && other != r {
			t.Fatalf("P18.4: %x is both %+v and %+v", b, other, r)
		}
		written[string(b)] = r
	}
}
