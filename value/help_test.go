package value_test

import (
	"fmt"
	"math"
	"math/big"
	"slices"
	"strconv"
	"strings"

	"caliper/api"
)

const (
	tapered = iota
	signed
	turned
	scale
)

// row is what the document's table of forms says.
type row struct {
	form, kind, width, man, bias int
	top, inf, nan                uint64
}

var rows = []row{
	{api.Posit8, tapered, 8, 0, 0, 0x7F, 0, 0x80},
	{api.Posit16, tapered, 16, 0, 0, 0x7FFF, 0, 0x8000},
	{api.Posit32, tapered, 32, 0, 0, 0x7FFFFFFF, 0, 0x80000000},
	{api.Posit64, tapered, 64, 0, 0, 0x7FFFFFFFFFFFFFFF, 0, 0x8000000000000000},
	{api.E4M3, signed, 8, 3, 7, 0x7E, 0, 0x7F},
	{api.E5M2, signed, 8, 2, 15, 0x7B, 0x7C, 0x7E},
	{api.E3M2, signed, 6, 2, 3, 0x1F, 0, 0},
	{api.E2M3, signed, 6, 3, 1, 0x1F, 0, 0},
	{api.E2M1, signed, 4, 1, 1, 7, 0, 0},
	{api.Int8, turned, 8, 6, 0, 0x7F, 0, 0},
	{api.E8M0, scale, 8, 0, 127, 0xFE, 0, 0xFF},
	{api.Binary16, signed, 16, 10, 15, 0x7BFF, 0x7C00, 0x7E00},
	{api.Binary32, signed, 32, 23, 127, 0x7F7FFFFF, 0x7F800000, 0x7FC00000},
	{api.Binary64, signed, 64, 52, 1023, 0x7FEFFFFFFFFFFFFF, 0x7FF0000000000000, 0x7FF8000000000000},
}

// noForms are numbers of no form.
var noForms = []int{0, 15, 16, 99, -1, -14, 256 + 1, 1<<32 + 1, math.MinInt32, math.MaxInt32, math.MinInt, math.MinInt + 1, math.MaxInt}

// someKeys are about what may go wrong in any form.
var someKeys = []uint64{0, 1, 2, 7, 8, 0x1F, 0x20, 0x7E, 0x7F, 0x80, 0x81, 0xFE, 0xFF, 0x100, 0x7FFF, 1 << 32, 1<<63 - 1, 1 << 63, math.MaxUint64}

func (r row) all() uint64 { return math.MaxUint64 >> (64 - r.width) }

// highest is the highest bit of a pattern.
func (r row) highest() uint64 { return 1 << (r.width - 1) }

// sides are the signs that numbers of the form may have.
func (r row) sides() []bool {
	if r.kind == scale {
		return []bool{false}
	}
	return []bool{false, true}
}

// most is the greatest key of that sign, which is one of sides.
func (r row) most(neg bool) uint64 {
	if r.kind == turned && neg {
		return 128
	}
	return r.top
}

// turns are numbers up to most, rising: all of few; of many those about each turn of a bit, and those that are given.
func turns(most uint64, given ...uint64) []uint64 {
	list, mixed := []uint64{}, uint64(1)
	if most < 1<<16 {
		for p := range most + 1 {
			list = append(list, p)
		}
		return list
	}
	for i := range 64 {
		turn := uint64(1) << i
		given = append(given, turn, turn|turn<<1, most-turn, most>>1-turn, most>>1+turn)
	}
	for _, p := range given {
		for near := range uint64(4) {
			mixed = mixed*6364136223846793005 + 1442695040888963407
			list = append(list, p+near, p-near, mixed>>1, mixed>>(64-mixed%64), most-mixed>>(64-mixed%64))
		}
	}
	list = slices.DeleteFunc(append(list, most), func(p uint64) bool { return p > most })
	slices.Sort(list)
	return slices.Compact(list)
}

func (r row) patterns() []uint64 {
	high := r.highest()
	return turns(r.all(), r.top, r.inf, r.nan, r.top|high, r.inf|high, r.nan|high, high)
}

func (r row) keys(neg bool) []uint64 { return turns(r.most(neg), 1<<r.man) }

// power is 2 to the power of e, on whichever side of 0.
func power(e int) *big.Rat {
	n := new(big.Int).Lsh(big.NewInt(1), uint(max(e, -e)))
	if e < 0 {
		return new(big.Rat).SetFrac(big.NewInt(1), n)
	}
	return new(big.Rat).SetInt(n)
}

// times is m times 2 to the power of e.
func times(m uint64, e int) *big.Rat {
	n := new(big.Rat).SetInt(new(big.Int).SetUint64(m))
	return n.Mul(n, power(e))
}

// number is a Zero or Finite value, with its sign.
func number(v api.Value) *big.Rat {
	n := times(v.M, v.E)
	if v.Neg {
		n.Neg(n)
	}
	return n
}

// bitsToNumber is the number of these bits, 0 of none.
func bitsToNumber(text string) uint64 {
	n, err := strconv.ParseUint("0"+text, 2, 64)
	if err != nil {
		panic(err)
	}
	return n
}

// positOf has the number of a posit's bits by the standard's own formula, which turns no pattern:
// ((1 - 3s) + f) times 2 to the power of (1 - 2s)(4r + e + s).
func positOf(text string) *big.Rat {
	s, rest := int(text[0]-'0'), text[1:]
	behind := strings.TrimLeft(rest, rest[:1])
	run := len(rest) - len(behind)
	regime := run - 1
	if rest[0] == '0' {
		regime = -run
	}
	if behind != "" {
		behind = behind[1:]
	}
	exp := bitsToNumber((behind + "00")[:2])
	frac := behind[min(2, len(behind)):]
	x := times(bitsToNumber(frac), -len(frac))
	x.Add(x, big.NewRat(int64(1-3*s), 1))
	return x.Mul(x, power((1-2*s)*(4*regime+int(exp)+s)))
}

// miniOf has the number of a magnitude by whole division.
func miniOf(man, bias int, key uint64) *big.Rat {
	first := uint64(1) << man
	field, mantissa := key/first, key%first
	if field == 0 {
		return times(mantissa, 1-bias-man)
	}
	return times(first+mantissa, int(field)-bias-man)
}

// sizeOf is the number of a key, as the chapters below say it.
func (r row) sizeOf(key uint64) *big.Rat {
	switch {
	case r.kind == scale:
		return power(int(key) - r.bias)
	case r.kind == turned:
		return big.NewRat(int64(key), 64)
	case r.kind == signed:
		return miniOf(r.man, r.bias, key)
	case key == 0:
		return new(big.Rat)
	}
	return positOf(fmt.Sprintf("%0*b", r.width, key))
}

// boundaryOf is the number of 2 key + 1, of one bit more.
func (r row) boundaryOf(key uint64) *big.Rat {
	switch r.kind {
	case scale:
		return new(big.Rat).Mul(power(int(key)-r.bias), big.NewRat(3, 2))
	case turned:
		return big.NewRat(2*int64(key)+1, 128)
	case signed:
		return miniOf(r.man+1, r.bias, 2*key+1)
	}
	return positOf(fmt.Sprintf("%0*b", r.width+1, 2*key+1))
}
