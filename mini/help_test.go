package mini_test

import (
	"math"
	"math/big"
	"slices"
)

const mostMan, mostField = 60, 4095

// noMans and noBiases are what may not be.
var (
	noMans = []int{-1, -2, -3, -60, -64, 61, 62, 63, 64, 65, 128, 256 + 3, 1<<32 + 3, -1<<32 + 3, math.MinInt32, math.MaxInt32,
		math.MinInt, math.MinInt + 3, math.MaxInt}
	noBiases = []int{-2001, 2001, -2002, 2002, 4000, -4000, 1<<16 + 7, 1<<32 + 7, -1<<32 + 7, math.MinInt32, math.MaxInt32,
		math.MinInt, math.MinInt + 7, math.MaxInt}
	biases = []int{-2000, -1999, -127, -1, 0, 1, 2, 3, 7, 15, 127, 1023, 1999, 2000}
)

// greatest is the greatest key: of a field of all its bits, as far as a key has them.
func greatest(man int) uint64 {
	if man > 52 {
		return math.MaxUint64
	}
	return mostField<<man | (1<<man - 1)
}

// keysOf are keys, rising: all of a small man; of others those about each turn of a field, and some behind each.
func keysOf(man int) []uint64 {
	most := greatest(man)
	keys, mixed := []uint64{}, uint64(1)
	if man <= 3 {
		for key := range most + 1 {
			keys = append(keys, key)
		}
		return keys
	}
	for _, field := range []uint64{0, 1, 2, 3, 4, 7, 8, 14, 15, 16, 127, 1022, 1023, 1024, 2046, 2047, 2048, 4093, 4094, 4095} {
		if field > most>>man {
			break
		}
		turn, last := field<<man, uint64(1)<<man-1
		for i := range man {
			mixed = mixed*6364136223846793005 + 1442695040888963407
			keys = append(keys, turn|1<<i, turn|1<<i-1, turn|last-1<<i, turn|last&^(1<<i-1), turn|mixed>>(64-man), turn|mixed>>(64-man)&^(1<<i-1))
		}
		keys = append(keys, turn, turn|last)
	}
	slices.Sort(keys)
	return slices.Compact(keys)
}

// times is m times 2 to the power of e.
func times(m uint64, e int) *big.Rat {
	n := new(big.Int).SetUint64(m)
	one := new(big.Int).Lsh(big.NewInt(1), uint(max(e, -e)))
	if e < 0 {
		return new(big.Rat).SetFrac(n, one)
	}
	return new(big.Rat).SetInt(n.Mul(n, one))
}

// reckon is the number of a key, as the document says it, by whole division.
func reckon(man, bias int, key uint64) *big.Rat {
	first := uint64(1)
	for range man {
		first *= 2
	}
	field, mantissa := key/first, key%first
	if field == 0 {
		return times(mantissa, 1-bias-man)
	}
	return times(mantissa+first, int(field)-bias-man)
}
