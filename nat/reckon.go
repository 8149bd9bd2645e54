package nat

import (
	"math/bits"

	"caliper/api"
)

const (
	maxShift = 1 << 17
	maxPower = 2 * api.MaxPow
)

// Add is the sum.
func Add(a, b api.Nat) api.Nat {
	a, b = trim(a), trim(b)
	if len(a) < len(b) {
		a, b = b, a
	}
	sum := make(api.Nat, len(a)+1)
	carry := uint64(0)
	for i, w := range a {
		sum[i], carry = bits.Add64(w, wordAt(b, i), carry)
	}
	sum[len(a)] = carry
	return trim(sum)
}

// Sub is a less b, and whether there is such a number.
func Sub(a, b api.Nat) (api.Nat, bool) {
	a, b = trim(a), trim(b)
	if Cmp(a, b) < 0 {
		return nil, false
	}
	rest := make(api.Nat, len(a))
	borrow := uint64(0)
	for i, w := range a {
		rest[i], borrow = bits.Sub64(w, wordAt(b, i), borrow)
	}
	return trim(rest), true
}

// Mul is the product.
func Mul(a, b api.Nat) api.Nat {
	a, b = trim(a), trim(b)
	product := make(api.Nat, len(a)+len(b))
	for i, w := range a {
		product[i+len(b)] = addTimes(product[i:], b, w)
	}
	return trim(product)
}

// addTimes adds w times b to the lowest words of sum, as many as b has, and answers what goes
// beyond them.
func addTimes(sum, b api.Nat, w uint64) uint64 {
	beyond := uint64(0)
	for i, v := range b {
		high, low := bits.Mul64(v, w)
		low, carry := bits.Add64(low, beyond, 0)
		high += carry
		sum[i], carry = bits.Add64(sum[i], low, 0)
		beyond = high + carry
	}
	return beyond
}

// Pow is base to the power of n.
func Pow(base uint64, n int) api.Nat {
	n = clamp(n, maxPower)
	power, factor := Of(1), Of(base)
	// From the highest bit of n on, so that all but the squares are products with a single word.
	for i := bits.Len(uint(n)) - 1; i >= 0; i-- {
		power = Mul(power, power)
		if n>>i&1 == 1 {
			power = Mul(power, factor)
		}
	}
	return power
}

// Shl is a times 2 to the power of n.
func Shl(a api.Nat, n int) api.Nat { return trim(shiftUp(trim(a), clamp(n, maxShift))) }

// Shr is a by 2 to the power of n, rounded down.
func Shr(a api.Nat, n int) api.Nat {
	a, n = trim(a), clamp(n, maxShift)
	skip, by := n/wordBits, n%wordBits
	if skip >= len(a) {
		return nil
	}
	out := make(api.Nat, len(a)-skip)
	for i := range out {
		out[i] = a[skip+i]>>by | wordAt(a, skip+i+1)<<(wordBits-by)
	}
	return trim(out)
}

// shiftUp answers always len(a) + n/64 + 1 words, the last one 0 or not: a division needs that room.
func shiftUp(a api.Nat, n int) api.Nat {
	skip, by := n/wordBits, n%wordBits
	out := make(api.Nat, len(a)+skip+1)
	for i, w := range a {
		out[skip+i] |= w << by
		out[skip+i+1] = w >> (wordBits - by)
	}
	return out
}

func clamp(n, most int) int { return max(0, min(n, most)) }
