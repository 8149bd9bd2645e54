package quire

import (
	"caliper/api"
	"caliper/nat"
)

// point is how many bits stand behind the point: what the bits count are steps of 2 to the power of
// -point.
func (q *Quire) point() int { return 8*q.Width - 16 }

// highest are the bits of NaR.
func (q *Quire) highest() api.Nat { return nat.Shl(nat.Of(1), q.Size()-1) }

// beyond is the least number that has a bit too many.
func (q *Quire) beyond() api.Nat { return nat.Shl(nat.Of(1), q.Size()) }

// fitting is what is left of a sum of two that fit.
func (q *Quire) fitting(sum api.Nat) api.Nat {
	if left, over := nat.Sub(sum, q.beyond()); over {
		return left
	}
	return sum
}

// turned are the bits of the other sign. Of 0 these are one too many, which is lost.
func (q *Quire) turned(b api.Nat) api.Nat {
	other, _ := nat.Sub(q.beyond(), b)
	return q.fitting(other)
}

// signed are the bits of so many steps, above nought or below.
func (q *Quire) signed(neg bool, steps api.Nat) api.Nat {
	if neg {
		return q.turned(steps)
	}
	return steps
}

// held is the number that the bits are, if they are not those of NaR.
func (q *Quire) held() api.Exact {
	neg := nat.Bits(q.bits) == q.Size()
	return api.Exact{Neg: neg, N: q.signed(neg, q.bits), Two: -q.point()}
}

// stepsOf is how many steps the size of x, which is reduced, is just, and whether it is a whole number
// of them, and bits but those of NaR hold that. (What is reduced is whole just if no power is below nought.)
func (q *Quire) stepsOf(x api.Exact) (api.Nat, bool) {
	two := x.Two + q.point()
	if two < 0 || x.Five < 0 {
		return nil, false
	}
	steps := nat.Shl(nat.Mul(x.N, nat.Pow(5, x.Five)), two)
	return steps, nat.Bits(steps) < q.Size()
}
