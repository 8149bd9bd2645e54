package posit

import (
	"math/bits"
)

const (
	leastWidth = 3
	mostWidth  = 65
	wordBits   = 64
	expBits    = 2
)

// sizeOf is how many bits the keys of that width have.
func sizeOf(width int) int {
	if width < leastWidth || width > mostWidth {
		panic("the width is not from 3 to 65")
	}
	return width - 1
}

func split(size int, key uint64) Fields {
	if key == 0 || key>>size != 0 {
		panic("the key is 0, or has too many bits")
	}
	regime := regimeOf(size, key)
	exp, frac := behind(size, regime)
	return Fields{
		Regime: regime,
		Exp:    int(key>>frac&(1<<exp-1)) << (expBits - exp),
		Frac:   key & (1<<frac - 1),
		Bits:   frac,
	}
}

// regimeOf has the key stand at the highest bits of a word, where a run is counted at once.
func regimeOf(size int, key uint64) int {
	high := key << (wordBits - size)
	if ones := bits.LeadingZeros64(^high); ones > 0 {
		return ones - 1
	}
	return -bits.LeadingZeros64(high)
}

// behind is how many bits of Exp and how many of Frac stand behind the run and the bit that ends it.
func behind(size, regime int) (int, int) {
	if regime <= -size || regime >= size {
		panic(none("the run is too long"))
	}
	run := max(regime+1, -regime)
	// A run that goes on to the last bit has no bit that ends it.
	left := max(0, size-run-1)
	exp := min(left, expBits)
	return exp, left - exp
}

func join(size int, f Fields) uint64 {
	exp, frac := behind(size, f.Regime)
	lost := expBits - exp
	if f.Exp&^(1<<expBits-1<<lost) != 0 {
		panic(none("the exponent has a bit that is not there"))
	}
	if f.Bits != frac || f.Frac>>frac != 0 {
		panic(none("the fraction has other bits"))
	}
	return runOf(size, f.Regime) | uint64(f.Exp)>>lost<<frac | f.Frac
}

// runOf is the run of a key, with the bit that ends it, if there is one.
func runOf(size, regime int) uint64 {
	if regime < 0 {
		return 1 << (size - 1 + regime)
	}
	return 1<<size - 1<<(size-1-regime)
}

// number is m, that is odd, and e, of m times 2 to the power of e.
func number(f Fields) (uint64, int) {
	m := 1<<f.Bits | f.Frac
	even := bits.TrailingZeros64(m)
	return m >> even, f.Regime<<expBits + f.Exp - f.Bits + even
}

// fieldsOf is the fields of m times 2 to the power of e. Of Exp it has both bits, there or not.
func fieldsOf(size int, m uint64, e int) Fields {
	if m == 0 {
		panic("m is 0")
	}
	even := bits.TrailingZeros64(m)
	odd := m >> even
	points := bits.Len64(odd) - 1
	// Where this wraps round it is far below every width's powers, and there is none either way.
	power := e + even + points
	regime := power >> expBits
	_, frac := behind(size, regime)
	if points > frac {
		panic(none("the fraction has too many bits"))
	}
	return Fields{
		Regime: regime,
		Exp:    power & (1<<expBits - 1),
		Frac:   (odd - 1<<points) << (frac - points),
		Bits:   frac,
	}
}
