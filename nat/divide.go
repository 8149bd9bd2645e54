package nat

import (
	"math"
	"math/bits"

	"caliper/api"
)

// Div is how often b goes into a, what is left, and whether b is not 0.
func Div(a, b api.Nat) (api.Nat, api.Nat, bool) {
	a, b = trim(a), trim(b)
	switch {
	case len(b) == 0:
		return nil, nil, false
	case len(a) < len(b):
		return nil, Norm(a...), true
	case len(b) == 1:
		quotient := Norm(a...)
		left := divideByWord(quotient, b[0])
		return trim(quotient), Of(left), true
	}
	quotient, left := divideLong(a, b)
	return quotient, left, true
}

// divideByWord makes a its quotient, and answers what is left.
func divideByWord(a api.Nat, by uint64) uint64 {
	left := uint64(0)
	for i := len(a) - 1; i >= 0; i-- {
		a[i], left = bits.Div64(left, a[i], by)
	}
	return left
}

// divideLong divides as it is done by hand, with words as digits (Knuth's algorithm D): b has two
// words or more, and a no fewer. Both are shifted until the highest bit of b is 1, since a digit is
// guessed almost right then.
func divideLong(a, b api.Nat) (api.Nat, api.Nat) {
	shift := bits.LeadingZeros64(b[len(b)-1])
	rest, by := shiftUp(a, shift), shiftUp(b, shift)[:len(b)]
	quotient := make(api.Nat, len(a)-len(b)+1)
	for i := len(quotient) - 1; i >= 0; i-- {
		quotient[i] = takeDigit(rest[i:i+len(b)+1], by)
	}
	return trim(quotient), Shr(rest, shift)
}

// takeDigit is how often by goes into rest, which has one word more; rest becomes what is left.
func takeDigit(rest, by api.Nat) uint64 {
	digit := guessDigit(rest, by)
	if takeTimes(rest, by, digit) {
		giveBack(rest, by)
		digit--
	}
	return digit
}

// guessDigit is the digit, or at most one more: the three highest words of rest by the two highest
// of by.
func guessDigit(rest, by api.Nat) uint64 {
	n := len(by)
	first, second := by[n-1], by[n-2]
	digit, left, over := firstGuess(rest[n], rest[n-1], first)
found:
	for {
		high, low := bits.Mul64(digit, second)
		switch {
		case over != 0, high < left, high == left && low <= rest[n-2]:
			break found
		}
		digit--
		left, over = bits.Add64(left, first, 0)
	}
	return digit
}

// firstGuess divides the two words by one: the digit, what is left, and whether that has more than
// a word. Of high the same as by the digit would be too great for a word; the greatest one is taken.
func firstGuess(high, low, by uint64) (uint64, uint64, uint64) {
	if high >= by {
		left, over := bits.Add64(low, by, 0)
		return math.MaxUint64, left, over
	}
	digit, left := bits.Div64(high, low, by)
	return digit, left, 0
}

// takeTimes takes digit times by away from rest, and answers whether that was too much.
func takeTimes(rest, by api.Nat, digit uint64) bool {
	beyond, borrow := uint64(0), uint64(0)
	for i, v := range by {
		high, low := bits.Mul64(v, digit)
		low, carry := bits.Add64(low, beyond, 0)
		rest[i], borrow = bits.Sub64(rest[i], low, borrow)
		beyond = high + carry
	}
	rest[len(by)], borrow = bits.Sub64(rest[len(by)], beyond, borrow)
	return borrow != 0
}

// giveBack adds by to rest once; what is carried out ends the borrow that takeTimes left.
func giveBack(rest, by api.Nat) {
	carry := uint64(0)
	for i, v := range by {
		rest[i], carry = bits.Add64(rest[i], v, carry)
	}
	rest[len(by)] += carry
}
