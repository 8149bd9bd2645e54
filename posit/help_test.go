package posit_test

import (
	"fmt"
	"math"
	"math/big"
	"slices"
	"strconv"
	"strings"

	"caliper/posit"
)

const leastWidth, mostWidth = 3, 65

// allOf is the greatest width of which all keys are tried.
const allOf = 15

// noWidths are widths that may not be.
var noWidths = []int{2, 1, 0, -1, -3, -8, -65, 66, 67, 72, 128, 256 + 8, 1<<32 + 8, -1<<32 + 8, math.MinInt32, math.MaxInt32,
	math.MinInt, math.MinInt + 8, math.MaxInt}

// greatest is the greatest key of a width: all bits of it.
func greatest(width int) uint64 { return math.MaxUint64 >> (65 - width) }

// keysOf are keys of a width, rising: all of a small one; of others those about each run's turn, and some behind each.
func keysOf(width int) []uint64 {
	most := greatest(width)
	if width <= allOf {
		keys := make([]uint64, 0, most)
		for key := range most {
			keys = append(keys, key+1)
		}
		return keys
	}
	keys, mixed := []uint64{}, uint64(1)
	for i := range width - 1 {
		for near := uint64(0); near < 12; near++ {
			turn := uint64(1) << i
			mixed = mixed*6364136223846793005 + 1442695040888963407
			keys = append(keys, turn+near, turn-near, most-turn+near, most-turn-near, turn|mixed>>(64-i), most-turn|mixed>>(64-i))
		}
	}
	keys = slices.DeleteFunc(keys, func(key uint64) bool { return key == 0 || key > most })
	slices.Sort(keys)
	return slices.Compact(keys)
}

// bitsToNumber is the number of these bits, 0 of none.
func bitsToNumber(text string) uint64 {
	n, err := strconv.ParseUint("0"+text, 2, 64)
	if err != nil {
		panic(err)
	}
	return n
}

// read has the fields of a key by its bits as a text, from the highest on.
func read(width int, key uint64) posit.Fields {
	text := fmt.Sprintf("%0*b", width-1, key)
	rest := strings.TrimLeft(text, text[:1])
	run := len(text) - len(rest)
	regime := run - 1
	if text[0] == '0' {
		regime = -run
	}
	if rest != "" {
		rest = rest[1:]
	}
	exp := (rest + "00")[:2]
	frac := strings.TrimPrefix(rest, rest[:min(2, len(rest))])
	return posit.Fields{Regime: regime, Exp: int(bitsToNumber(exp)), Frac: bitsToNumber(frac), Bits: len(frac)}
}

// power is 2 to the power of e, on whichever side of 0.
func power(e int) *big.Rat {
	n := new(big.Int).Lsh(big.NewInt(1), uint(max(e, -e)))
	if e < 0 {
		return new(big.Rat).SetFrac(big.NewInt(1), n)
	}
	return new(big.Rat).SetInt(n)
}

// times is m times 2 to the power of e.
func times(m uint64, e int) *big.Rat {
	n := new(big.Rat).SetInt(new(big.Int).SetUint64(m))
	return n.Mul(n, power(e))
}

// reckon is the number of the fields, as the document says it.
func reckon(f posit.Fields) *big.Rat {
	one := times(f.Frac, -f.Bits)
	one.Add(one, big.NewRat(1, 1))
	return one.Mul(one, power(4*f.Regime+f.Exp))
}
