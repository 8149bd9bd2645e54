package ten

import (
	"caliper/api"
	"caliper/nat"
)

// farthest is the greatest k, below 0 or above, whose power has a significand.
const farthest = 400

// Significand is hi, lo and e, so that hi 2^64 + lo is 10 to the power of k, by 2 to the power of e,
// rounded down, and has just 128 bits.
func Significand(k int) (uint64, uint64, int) {
	if k < -farthest || k > farthest {
		return 0, 0, 0
	}
	e := Log2Of10(k) - 127
	// Of k and -k one counts as 0, and of e and -e: what is below 0 stands on the other side of the division.
	s, _, _ := nat.Div(nat.Shl(Pow10(k), -e), nat.Shl(Pow10(-k), e))
	lo, _ := nat.Word(s)
	hi, _ := nat.Word(nat.Shr(s, 64))
	return hi, lo, e
}

// Check is whether Significand tells of each k what it shall.
func Check() bool { return allHold(Significand) }

// allHold is handed the significands, so that wrong ones can be tried.
func allHold(significand func(k int) (uint64, uint64, int)) (hold bool) {
	defer func() {
		if recover() != nil {
			hold = false
		}
	}()
	for i := range 2*farthest + 1 {
		k := i - farthest
		hi, lo, e := significand(k)
		mustHold(k, hi, lo, e)
	}
	return true
}

// mustHold panics with what is wrong.
func mustHold(k int, hi, lo uint64, e int) {
	s := nat.Norm(lo, hi)
	switch {
	case hi>>63 == 0:
		panic("the highest bit is not 1")
	case isAbove(s, e, k):
		panic("S 2^e is above 10^k")
	case !isAbove(nat.Add(s, nat.Of(1)), e, k):
		panic("(S + 1) 2^e is not above 10^k")
	}
}

// isAbove is whether s 2^e is above 10^k. What is below 0 is multiplied with on the other side.
func isAbove(s api.Nat, e, k int) bool {
	return nat.Cmp(nat.Mul(nat.Shl(s, e), Pow10(-k)), nat.Shl(Pow10(k), -e)) > 0
}
