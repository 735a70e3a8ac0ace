package accounts_test

import (
	"bytes"
	"testing"

	"pergola/accounts"
	"pergola/api"
)

func TestP123ByteByByte(t *testing.T) {
	for n, want := range map[uint64]string{
		0:             "",
		1:             "01",
		127:           "7f",
		128:           "80",
		255:           "ff",
		256:           "0100",
		258:           "0102",
		65535:         "ffff",
		65536:         "010000",
		1<<32 - 1:     "ffffffff",
		1 << 32:       "0100000000",
		0x00a0b0c0d0e: "0a0b0c0d0e",
		1<<56 - 1:     "ffffffffffffff",
		1 << 56:       "0100000000000000",
		1 << 63:       "8000000000000000",
		m:             "ffffffffffffffff",
	} {
		if b := accounts.Value(n); !bytes.Equal(b, unhex(want)) {
			t.Errorf("P12.3: Value(%d) = %x, not %s", n, b, want)
		}
		if got, e := accounts.Read(unhex(want)); got != n || e != api.OK {
			t.Errorf("P12.3: Read(%s) = %d %d, not %d", want, got, e, n)
		}
	}
}

func TestP123ReadOfNoBytes(t *testing.T) {
	for _, b := range [][]byte{nil, {}} {
		if n, e := accounts.Read(b); n != 0 || e != api.OK {
			t.Errorf("P12.3: Read of no bytes = %d %d, not 0", n, e)
		}
	}
}

func TestP123ReadRefuses(t *testing.T) {
	for _, b := range [][]byte{
		{0}, {0, 0}, {0, 1}, {0, 255}, {0, 128, 0}, {0, 1, 2, 3, 4, 5, 6, 7}, make([]byte, 8),
		{1, 0, 0, 0, 0, 0, 0, 0, 0}, {0, 1, 2, 3, 4, 5, 6, 7, 8}, {1, 2, 3, 4, 5, 6, 7, 8, 9}, make([]byte, 9),
		bytes.Repeat([]byte{255}, 9), bytes.Repeat([]byte{255}, 32), make([]byte, 256), make([]byte, 1<<20), bytes.Repeat([]byte{1}, 1<<20),
	} {
		if n, e := accounts.Read(b); n != 0 || e != api.ErrAccountsForm {
			t.Errorf("P12.3: Read(%.20x) of %d bytes = %d %d, not ErrAccountsForm", b, len(b), n, e)
		}
	}
}

// checkedRead holds Read of b against the plain one.
func checkedRead(t *testing.T, b []byte) {
	t.Helper()
	n, e := accounts.Read(b)
	want, ok := plainRead(b)
	if n != want || (e == api.OK) != ok || !ok && e != api.ErrAccountsForm {
		t.Fatalf("P12.3: Read(%x) = %d %d, not %d %v", b, n, e, want, ok)
	}
	if ok && !bytes.Equal(accounts.Value(n), b) {
		t.Fatalf("P12.4: Value(Read(%x)) = %x", b, accounts.Value(n))
	}
}

func TestP123P124ReadOfAllFewBytes(t *testing.T) {
	for i := range 1 << 16 {
		checkedRead(t, []byte{byte(i)})
		checkedRead(t, []byte{byte(i >> 8), byte(i)})
		checkedRead(t, []byte{byte(i >> 8), byte(i), 7})
	}
}

func TestP123P124ReadOfEachLength(t *testing.T) {
	for length := range 20 {
		for _, fill := range []byte{0, 1, 127, 128, 255} {
			b := bytes.Repeat([]byte{fill}, length)
			checkedRead(t, b)
			for i := range b {
				for _, c := range []byte{0, 1, 200} {
					other := bytes.Clone(b)
					other[i] = c
					checkedRead(t, other)
				}
			}
		}
	}
}

func TestP124SlotsThereAndBack(t *testing.T) {
	for _, n := range edges() {
		b := accounts.Value(n)
		if !bytes.Equal(b, plainWord(n)) {
			t.Errorf("P12.3: Value(%d) = %x, not %x", n, b, plainWord(n))
		}
		if got, e := accounts.Read(b); got != n || e != api.OK {
			t.Errorf("P12.4: Read(Value(%d)) = %d %d", n, got, e)
		}
	}
}
