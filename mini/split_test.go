package mini_test

import (
	"math"
	"testing"

	"caliper/api"
	"caliper/mini"
)

func wantSplit(t *testing.T, man int, key, field, mantissa uint64) {
	t.Helper()
	if f, n, err := mini.Split(man, key); f != field || n != mantissa || err != api.OK {
		t.Errorf("Split of %d, %X: %d, %X, %v, want %d, %X", man, key, f, n, err, field, mantissa)
	}
}

// wantNoKey asks both calls that are handed a key.
func wantNoKey(t *testing.T, man, bias int, key uint64) {
	t.Helper()
	if f, n, err := mini.Split(man, key); f != 0 || n != 0 || err != api.ErrArg {
		t.Errorf("Split of %d, %X: %d, %X, %v", man, key, f, n, err)
	}
	wantNoValue(t, man, bias, key)
}

func wantNoValue(t *testing.T, man, bias int, key uint64) {
	t.Helper()
	if m, e, err := mini.Value(man, bias, key); m != 0 || e != 0 || err != api.ErrArg {
		t.Errorf("Value of %d, %d, %X: %d, %d, %v", man, bias, key, m, e, err)
	}
}

func TestSplitTable(t *testing.T) {
	for _, x := range []struct {
		man                  int
		key, field, mantissa uint64
	}{
		{0, 0, 0, 0}, {0, 1, 1, 0}, {0, 4095, 4095, 0},
		{1, 7, 3, 1}, {1, 8191, 4095, 1},
		{3, 0, 0, 0}, {3, 7, 0, 7}, {3, 8, 1, 0}, {3, 0x38, 7, 0}, {3, 0x7E, 15, 6}, {3, 0x7FFF, 4095, 7}, {3, 0x7FF8, 4095, 0},
		{10, 0x7BFF, 30, 0x3FF}, {23, 0x7F7FFFFF, 254, 0x7FFFFF},
		{51, 1<<63 - 1, 4095, 1<<51 - 1},
		{52, 0x7FEFFFFFFFFFFFFF, 2046, 1<<52 - 1}, {52, math.MaxUint64, 4095, 1<<52 - 1}, {52, 1 << 63, 2048, 0},
		{53, math.MaxUint64, 2047, 1<<53 - 1}, {59, math.MaxUint64, 31, 1<<59 - 1},
		{60, 0, 0, 0}, {60, 1<<60 - 1, 0, 1<<60 - 1}, {60, 1 << 60, 1, 0}, {60, 1 << 63, 8, 0}, {60, math.MaxUint64, 15, 1<<60 - 1},
	} {
		wantSplit(t, x.man, x.key, x.field, x.mantissa)
	}
}

// What is split goes together again, and the mantissa is below the field's first bit.
func TestSplitOfKeys(t *testing.T) {
	for man := range mostMan + 1 {
		for _, key := range keysOf(man) {
			f, n, err := mini.Split(man, key)
			if err != api.OK || n >= 1<<man || f > mostField || f*(1<<man)+n != key {
				t.Errorf("%d, %X: %d, %X, %v", man, key, f, n, err)
			}
		}
	}
}

func TestNoMan(t *testing.T) {
	for _, man := range noMans {
		for _, key := range []uint64{0, 1, 7, 0x38, 1 << 32, 1 << 63, math.MaxUint64} {
			wantNoKey(t, man, 7, key)
			wantNoKey(t, man, -2000, key)
			wantNoKey(t, man, 2001, key)
		}
	}
}

// A field is at most 4095; where a key has no more bits than that there are no others.
func TestNoField(t *testing.T) {
	for man := range 52 {
		for i := man + 12; i < 64; i++ {
			high := uint64(1) << i
			for _, key := range []uint64{high, high | 1, high | greatest(man), high | 1<<63, math.MaxUint64} {
				wantNoKey(t, man, 7, key)
				wantNoKey(t, man, -2001, key)
			}
		}
		wantNoKey(t, man, 0, greatest(man)+1)
	}
}

// Split is handed no bias; of one that may not be there is no value, whatever the key.
func TestNoBias(t *testing.T) {
	for _, bias := range noBiases {
		for man := range mostMan + 1 {
			for _, key := range []uint64{0, 1, 2, 7, 1 << man, greatest(man)} {
				wantNoValue(t, man, bias, key)
			}
		}
	}
}
