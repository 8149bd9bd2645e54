// Package nat is layer 1, natural numbers: see shared/doc/01-nat.md.
//
// A call may be handed words with noughts at their end; it looks at them through trim, and what it
// answers is made anew, so that neither side sees what the other writes later.
package nat

import (
	"cmp"
	"math/bits"

	"caliper/api"
)

const wordBits = 64

// Of is the number n.
func Of(n uint64) api.Nat { return Norm(n) }

// Norm is the number of these words, the lowest first.
func Norm(words ...uint64) api.Nat { return append(api.Nat(nil), trim(words)...) }

// Word is the lowest word, and whether there are no others.
func Word(a api.Nat) (uint64, bool) { return wordAt(a, 0), len(trim(a)) <= 1 }

// Bits is how many bits a has, without noughts ahead.
func Bits(a api.Nat) int {
	a = trim(a)
	if len(a) == 0 {
		return 0
	}
	return (len(a)-1)*wordBits + bits.Len64(a[len(a)-1])
}

// Bit is whether the bit i is 1.
func Bit(a api.Nat, i int) bool {
	return i >= 0 && wordAt(a, i/wordBits)>>(i%wordBits)&1 == 1
}

// Even is whether the bit 0 is not 1.
func Even(a api.Nat) bool { return !Bit(a, 0) }

// Cmp is -1, 0 or 1, as a is below, the same as, or above b.
func Cmp(a, b api.Nat) int {
	a, b = trim(a), trim(b)
	if len(a) != len(b) {
		return cmp.Compare(len(a), len(b))
	}
	for i := len(a) - 1; i >= 0; i-- {
		if a[i] != b[i] {
			return cmp.Compare(a[i], b[i])
		}
	}
	return 0
}

// trim leaves out the noughts at the end. What it answers are still the words of a: good to read,
// and good to hand out only if a itself was made for that.
func trim(a api.Nat) api.Nat {
	for len(a) > 0 && a[len(a)-1] == 0 {
		a = a[:len(a)-1]
	}
	return a
}

// wordAt lets two numbers of different lengths be gone through together.
func wordAt(a api.Nat, i int) uint64 {
	if i < len(a) {
		return a[i]
	}
	return 0
}
