package ten

import (
	"math/bits"
	"testing"
)

// spoiled are the significands, but for the one of k, that is spoiled.
func spoiled(k int, spoil func(hi, lo uint64, e int) (uint64, uint64, int)) func(int) (uint64, uint64, int) {
	return func(i int) (uint64, uint64, int) {
		if i == k {
			return spoil(Significand(i))
		}
		return Significand(i)
	}
}

// A single significand that is as little as can be beside what it shall be is found out, wherever it is.
func TestCheckFindsOut(t *testing.T) {
	for name, spoil := range map[string]func(hi, lo uint64, e int) (uint64, uint64, int){
		"one more": func(hi, lo uint64, e int) (uint64, uint64, int) {
			lo, carry := bits.Add64(lo, 1, 0)
			return hi + carry, lo, e
		},
		"one less": func(hi, lo uint64, e int) (uint64, uint64, int) {
			lo, borrow := bits.Sub64(lo, 1, 0)
			return hi - borrow, lo, e
		},
		"a bit less":         func(hi, lo uint64, e int) (uint64, uint64, int) { return hi >> 1, hi<<63 | lo>>1, e + 1 },
		"twice":              func(hi, lo uint64, e int) (uint64, uint64, int) { return hi, lo, e + 1 },
		"half":               func(hi, lo uint64, e int) (uint64, uint64, int) { return hi, lo, e - 1 },
		"without what":       func(uint64, uint64, int) (uint64, uint64, int) { return 0, 0, 0 },
		"with its own panic": func(uint64, uint64, int) (uint64, uint64, int) { panic("nothing is told") },
	} {
		for _, k := range []int{-farthest, -farthest + 1, -28, -1, 0, 1, 27, 28, 38, 39, farthest - 1, farthest} {
			if allHold(spoiled(k, spoil)) {
				t.Errorf("%s: %d is not found out", name, k)
			}
		}
	}
	if !allHold(Significand) {
		t.Errorf("the significands themselves")
	}
}

// Each k is asked for, and no other.
func TestCheckAsks(t *testing.T) {
	asked := map[int]int{}
	allHold(func(k int) (uint64, uint64, int) {
		asked[k]++
		return Significand(k)
	})
	for k := -400; k <= 400; k++ {
		if asked[k] != 1 {
			t.Errorf("%d is asked for %d times", k, asked[k])
		}
	}
	if len(asked) != 801 {
		t.Errorf("%d are asked for", len(asked))
	}
}
