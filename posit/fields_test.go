package posit_test

import (
	"math"
	"testing"

	"caliper/api"
	"caliper/posit"
)

// table has keys whose bits stand beside them.
var table = []struct {
	width int
	key   uint64
	f     posit.Fields
}{
	{3, 0b01, posit.Fields{Regime: -1}},
	{3, 0b10, posit.Fields{}},
	{3, 0b11, posit.Fields{Regime: 1}},
	{4, 0b001, posit.Fields{Regime: -2}},
	{4, 0b010, posit.Fields{Regime: -1}},
	{4, 0b011, posit.Fields{Regime: -1, Exp: 2}},
	{4, 0b100, posit.Fields{}},
	{4, 0b101, posit.Fields{Exp: 2}},
	{4, 0b110, posit.Fields{Regime: 1}},
	{4, 0b111, posit.Fields{Regime: 2}},
	{5, 0b0101, posit.Fields{Regime: -1, Exp: 1}},
	{5, 0b1011, posit.Fields{Exp: 3}},
	{6, 0b01011, posit.Fields{Regime: -1, Exp: 1, Frac: 1, Bits: 1}},
	{6, 0b10110, posit.Fields{Exp: 3, Bits: 1}},
	{8, 0b1000000, posit.Fields{Bits: 3}},
	{8, 0b1001100, posit.Fields{Exp: 1, Frac: 4, Bits: 3}},
	{8, 0b0111111, posit.Fields{Regime: -1, Exp: 3, Frac: 7, Bits: 3}},
	{8, 0b0000001, posit.Fields{Regime: -6}},
	{8, 0b0000010, posit.Fields{Regime: -5}},
	{8, 0b0000011, posit.Fields{Regime: -5, Exp: 2}},
	{8, 0b0000111, posit.Fields{Regime: -4, Exp: 3}},
	{8, 0b1111111, posit.Fields{Regime: 6}},
	{8, 0b1111110, posit.Fields{Regime: 5}},
	{8, 0b1111100, posit.Fields{Regime: 4}},
	{8, 0b1111101, posit.Fields{Regime: 4, Exp: 2}},
	{8, 0b1111011, posit.Fields{Regime: 3, Exp: 3}},
	{64, 1, posit.Fields{Regime: -62}},
	{64, 1 << 62, posit.Fields{Bits: 59}},
	{64, 1<<63 - 1, posit.Fields{Regime: 62}},
	{65, 1, posit.Fields{Regime: -63}},
	{65, 2, posit.Fields{Regime: -62}},
	{65, 3, posit.Fields{Regime: -62, Exp: 2}},
	{65, 1<<63 - 1, posit.Fields{Regime: -1, Exp: 3, Frac: 1<<60 - 1, Bits: 60}},
	{65, 1 << 63, posit.Fields{Bits: 60}},
	{65, 3<<62 - 1, posit.Fields{Exp: 3, Frac: 1<<60 - 1, Bits: 60}},
	{65, 1<<64 - 3, posit.Fields{Regime: 61, Exp: 2}},
	{65, 1<<64 - 2, posit.Fields{Regime: 62}},
	{65, 1<<64 - 1, posit.Fields{Regime: 63}},
}

func wantFields(t *testing.T, width int, key uint64, want posit.Fields) {
	t.Helper()
	if f, err := posit.Split(width, key); f != want || err != api.OK {
		t.Errorf("Split of %d, %b: %+v, %v, want %+v", width, key, f, err, want)
	}
	if k, err := posit.Join(width, want); k != key || err != api.OK {
		t.Errorf("Join of %d, %+v: %b, %v, want %b", width, want, k, err, key)
	}
}

func TestFieldsTable(t *testing.T) {
	for _, x := range table {
		wantFields(t, x.width, x.key, x.f)
	}
}

// All keys of the small widths, and those about each turn of the others.
func TestFieldsOfKeys(t *testing.T) {
	for width := leastWidth; width <= mostWidth; width++ {
		for _, key := range keysOf(width) {
			wantFields(t, width, key, read(width, key))
		}
	}
}

// wantNoKey asks both calls that are handed a key.
func wantNoKey(t *testing.T, width int, key uint64) {
	t.Helper()
	if f, err := posit.Split(width, key); f != (posit.Fields{}) || err != api.ErrArg {
		t.Errorf("Split of %d, %X: %+v, %v", width, key, f, err)
	}
	if m, e, err := posit.Value(width, key); m != 0 || e != 0 || err != api.ErrArg {
		t.Errorf("Value of %d, %X: %d, %d, %v", width, key, m, e, err)
	}
}

func TestNoWidthOfAKey(t *testing.T) {
	for _, width := range noWidths {
		for _, key := range []uint64{0, 1, 2, 3, 0x40, 0x7F, 1 << 62, 1 << 63, math.MaxUint64} {
			wantNoKey(t, width, key)
		}
	}
}

// A key of 0 is none, nor is one with a bit that the width has not.
func TestNoKey(t *testing.T) {
	for width := leastWidth; width <= mostWidth; width++ {
		wantNoKey(t, width, 0)
		for i := width - 1; i < 64; i++ {
			high := uint64(1) << i
			for _, key := range []uint64{high, high | 1, high | greatest(width), high | 1<<63, math.MaxUint64} {
				wantNoKey(t, width, key)
			}
		}
	}
}

func wantNoFields(t *testing.T, width int, f posit.Fields) {
	t.Helper()
	if key, err := posit.Join(width, f); key != 0 || err != api.ErrArg {
		t.Errorf("%d, %+v: %X, %v", width, f, key, err)
	}
}

func TestJoinNoWidth(t *testing.T) {
	for _, width := range noWidths {
		for _, f := range []posit.Fields{{}, {Bits: 3}, {Regime: 1}, {Regime: -1}, {Regime: 6}, {Bits: 60}, {Regime: math.MinInt}} {
			wantNoFields(t, width, f)
		}
	}
}

// Of all fields about those of the small widths a key has just its own.
func TestJoinAllAbout(t *testing.T) {
	for width := leastWidth; width <= 8; width++ {
		keys := map[posit.Fields]uint64{}
		for _, key := range keysOf(width) {
			keys[read(width, key)] = key
		}
		for regime := -9; regime <= 9; regime++ {
			for exp := -2; exp <= 5; exp++ {
				for bits := -2; bits <= 6; bits++ {
					for frac := range uint64(34) {
						f := posit.Fields{Regime: regime, Exp: exp, Frac: frac, Bits: bits}
						if key := keys[f]; key != 0 {
							wantFields(t, width, key, f)
						} else {
							wantNoFields(t, width, f)
						}
					}
				}
			}
		}
	}
}

func TestJoinTable(t *testing.T) {
	for _, x := range []struct {
		width int
		f     posit.Fields
	}{
		{3, posit.Fields{Regime: 2}}, {3, posit.Fields{Regime: -2}}, {3, posit.Fields{Exp: 1}}, {3, posit.Fields{Exp: 2}}, {3, posit.Fields{Bits: 1}},
		{4, posit.Fields{Exp: 1}}, {4, posit.Fields{Exp: 3}}, {4, posit.Fields{Regime: 1, Exp: 2}}, {4, posit.Fields{Regime: 2, Exp: 2}},
		{8, posit.Fields{Regime: 4, Exp: 1}}, {8, posit.Fields{Regime: 4, Exp: 3}}, {8, posit.Fields{Regime: -5, Exp: 1}},
		{8, posit.Fields{Regime: -5, Exp: 3}}, {8, posit.Fields{Regime: 5, Exp: 2}}, {8, posit.Fields{Regime: -6, Exp: 2}},
		{8, posit.Fields{Regime: 7}}, {8, posit.Fields{Regime: -7}}, {8, posit.Fields{Exp: 4, Bits: 3}}, {8, posit.Fields{Exp: -1, Bits: 3}},
		{8, posit.Fields{Frac: 8, Bits: 3}}, {8, posit.Fields{Bits: 2}}, {8, posit.Fields{Bits: 4}}, {8, posit.Fields{Regime: 6, Exp: 1}},
		{65, posit.Fields{Regime: 64}}, {65, posit.Fields{Regime: -64}}, {65, posit.Fields{Frac: 1 << 60, Bits: 60}}, {65, posit.Fields{Bits: 61}},
		{65, posit.Fields{Bits: 64}}, {65, posit.Fields{Regime: 62, Exp: 2}}, {65, posit.Fields{Regime: 61, Exp: 1}}, {65, posit.Fields{Regime: 63, Frac: 1}},
	} {
		wantNoFields(t, x.width, x.f)
	}
}

// One field is made another one, of which there is no key with the others.
func TestJoinSpoiled(t *testing.T) {
	for width := leastWidth; width <= mostWidth; width++ {
		for _, key := range []uint64{1, greatest(width), greatest(width) - 1, greatest(width)/2 + 1, greatest(width) / 2} {
			f := read(width, key)
			for _, regime := range []int{width - 1, -(width - 1), width, -width, 64, -64, f.Regime + 256, f.Regime + 1<<32,
				math.MinInt, math.MinInt + 1, math.MaxInt, math.MaxInt - 1} {
				wantNoFields(t, width, posit.Fields{Regime: regime, Exp: f.Exp, Frac: f.Frac, Bits: f.Bits})
			}
			for _, exp := range []int{-1, -4, 4, 5, 8, f.Exp - 4, f.Exp + 4, f.Exp + 256, f.Exp + 1<<32, f.Exp + math.MinInt, math.MinInt, math.MaxInt} {
				wantNoFields(t, width, posit.Fields{Regime: f.Regime, Exp: exp, Frac: f.Frac, Bits: f.Bits})
			}
			for _, bits := range []int{f.Bits - 1, f.Bits + 1, f.Bits + 2, f.Bits + 64, f.Bits - 64, f.Bits + 256, f.Bits + 1<<32,
				math.MinInt, math.MaxInt} {
				wantNoFields(t, width, posit.Fields{Regime: f.Regime, Exp: f.Exp, Frac: f.Frac, Bits: bits})
			}
			for i := f.Bits; i < 64; i++ {
				for _, frac := range []uint64{1 << i, 1<<i | f.Frac, math.MaxUint64} {
					wantNoFields(t, width, posit.Fields{Regime: f.Regime, Exp: f.Exp, Frac: frac, Bits: f.Bits})
				}
			}
		}
	}
}
