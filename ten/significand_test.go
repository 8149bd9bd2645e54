package ten_test

import (
	"math"
	"math/big"
	"testing"

	"caliper/ten"
)

// ratPower is base to the power of n, on whichever side of 0.
func ratPower(base int64, n int) *big.Rat {
	power := new(big.Int).Exp(big.NewInt(base), big.NewInt(int64(max(n, -n))), nil)
	if n < 0 {
		return new(big.Rat).SetFrac(big.NewInt(1), power)
	}
	return new(big.Rat).SetInt(power)
}

func TestSignificandAllOfThem(t *testing.T) {
	for k := -400; k <= 400; k++ {
		hi, lo, e := ten.Significand(k)
		s := new(big.Int).SetUint64(hi)
		s.Lsh(s, 64).Or(s, new(big.Int).SetUint64(lo))
		exactly := new(big.Rat).Quo(ratPower(10, k), ratPower(2, e))
		down := new(big.Int).Quo(exactly.Num(), exactly.Denom())
		if hi>>63 != 1 || s.Cmp(down) != 0 {
			t.Errorf("%d: %X, %X, %d, want %X", k, hi, lo, e, down)
		}
	}
}

// The edges, the powers that are told to the last bit, and the first ones that are not.
func TestSignificandTable(t *testing.T) {
	for _, x := range []struct {
		k      int
		hi, lo uint64
		e      int
	}{
		{-400, 0x95FE7E07C91EFAFA, 0x3931B850DF08E738, -1456},
		{-399, 0xBB7E1D89BB66B9B8, 0xC77E266516CB2106, -1453},
		{-28, 0xFD87B5F28300CA0D, 0x8BCA9D6E188853FC, -221},
		{-27, 0x9E74D1B791E07E48, 0x775EA264CF55347D, -217},
		{-1, 0xCCCCCCCCCCCCCCCC, 0xCCCCCCCCCCCCCCCC, -131},
		{0, 0x8000000000000000, 0, -127},
		{1, 0xA000000000000000, 0, -124},
		{27, 0xCECB8F27F4200F3A, 0, -38},
		{28, 0x813F3978F8940984, 0x4000000000000000, -34},
		{38, 0x96769950B50D88F4, 0x1314448000000000, -1},
		{39, 0xBC143FA4E250EB31, 0x17D955A000000000, 2},
		{55, 0xD0CF4B50CFE20765, 0xFFF4B4E3F741CF6D, 55},
		{56, 0x82818F1281ED449F, 0xBFF8F10E7A8921A4, 59},
		{399, 0xAEC4FFD3D61994B7, 0xA51FA93180964E38, 1198},
		{400, 0xDA763FC8CB9FF9E5, 0x8E67937DE0BBE1C6, 1201},
	} {
		if hi, lo, e := ten.Significand(x.k); hi != x.hi || lo != x.lo || e != x.e {
			t.Errorf("%d: %X, %X, %d", x.k, hi, lo, e)
		}
	}
}

func TestSignificandOutside(t *testing.T) {
	for _, k := range []int{-401, 401, -402, 402, -5000, 5000, -5001, 5001, math.MinInt32, math.MaxInt32, math.MinInt, math.MaxInt} {
		if hi, lo, e := ten.Significand(k); hi != 0 || lo != 0 || e != 0 {
			t.Errorf("%d: %X, %X, %d", k, hi, lo, e)
		}
	}
}

func TestCheck(t *testing.T) {
	for range 2 {
		if !ten.Check() {
			t.Errorf("no")
		}
	}
}
