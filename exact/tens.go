package exact

import (
	"caliper/api"
	"caliper/nat"
)

// half is what Floor tells of just a half; what it tells of less and of more stands beside it.
const half = 2

// Reduced is the same number, whose N is a multiple neither of 2 nor of 5.
func Reduced(x api.Exact) api.Exact {
	if isNought(x.N) {
		return api.Exact{Neg: x.Neg}
	}
	rest := nat.Norm(x.N...)
	// Sixteen factors at a time, and then fewer: long rows of them go out by few divisions.
	takeOut := func(base uint64) int {
		taken := 0
		for power := 16; power > 0; power /= 2 {
			factor := nat.Pow(base, power)
			often, left, _ := nat.Div(rest, factor)
			for isNought(left) {
				rest, taken = often, taken+power
				often, left, _ = nat.Div(rest, factor)
			}
		}
		return taken
	}
	two, five := takeOut(2), takeOut(5)
	return api.Exact{Neg: x.Neg, N: rest, Two: x.Two + two, Five: x.Five + five}
}

// Floor is how often 10 to the power of k goes into the size of x, and how much of it is left.
func Floor(x api.Exact, k int) (api.Nat, int) {
	k = nearestPower(k)
	two, five := x.Two-k, x.Five-k
	by := times(nat.Of(1), -two, -five)
	often, left, _ := nat.Div(times(x.N, two, five), by)
	return often, part(left, by)
}

// part is what Floor tells of left, which is less than whole.
func part(left, whole api.Nat) int {
	if isNought(left) {
		return 0
	}
	return half + nat.Cmp(nat.Shl(left, 1), whole)
}

// Log10 is the greatest k with 10 to the power of k at most the size of x.
func Log10(x api.Exact) int {
	if isNought(x.N) {
		return 0
	}
	// x is a whole number of these tens: its digits are just counted, nothing is guessed.
	tens := min(x.Two, x.Five)
	whole := times(x.N, x.Two-tens, x.Five-tens)
	return tens + len(nat.Text(whole)) - 1
}
