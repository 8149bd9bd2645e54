package round_test

import (
	"fmt"
	"math"
	"math/big"
	"slices"
	"strconv"
	"strings"
	"testing"

	"caliper/api"
	"caliper/forms"
	"caliper/value"
)

// noForms are numbers of no form.
var noForms = []int{0, 15, 16, 99, -1, -14, 256 + 1, 1<<32 + 1, math.MinInt32, math.MaxInt32, math.MinInt, math.MaxInt}

// noModes are neither Saturate nor Special.
var noModes = []int{0, 3, 4, -1, -2, 256 + 1, 1<<32 + 1, 1<<32 + 2, math.MinInt, math.MaxInt}

var modes = []int{api.Saturate, api.Special}

func num(n uint64, two, five int) api.Exact {
	if n == 0 {
		return api.Exact{Two: two, Five: five}
	}
	return long(api.Nat{n}, two, five)
}

func long(n api.Nat, two, five int) api.Exact { return api.Exact{N: n, Two: two, Five: five} }

func below(x api.Exact) api.Exact {
	x.Neg = true
	return x
}

// full are so many words of ones alone.
func full(length int) api.Nat {
	return slices.Repeat(api.Nat{math.MaxUint64}, length)
}

// wrong are numbers that are not right.
func wrong() []api.Exact {
	list := []api.Exact{
		long(api.Nat{0}, 0, 0), long(api.Nat{1, 0}, 0, 0), long(api.Nat{7, 0, 0}, 3, 3), long(full(129), 0, 0),
		long(append(full(127), 0), 0, 0), long(make(api.Nat, 300), 0, 0), long(append(make(api.Nat, 128), 1), -5000, -5000),
	}
	for _, far := range []int{-5001, 5001, 1 << 40, math.MinInt, math.MaxInt} {
		for _, n := range []uint64{0, 1, 3} {
			list = append(list, num(n, far, 0), num(n, 0, far), below(num(n, far, far)))
		}
	}
	return list
}

func toBig(a api.Nat) *big.Int {
	n := new(big.Int)
	for _, w := range slices.Backward(a) {
		n.Lsh(n, 64).Or(n, new(big.Int).SetUint64(w))
	}
	return n
}

func fromBig(n *big.Int) api.Nat {
	var a api.Nat
	for rest := new(big.Int).Set(n); rest.Sign() > 0; rest.Rsh(rest, 64) {
		a = append(a, new(big.Int).And(rest, new(big.Int).SetUint64(math.MaxUint64)).Uint64())
	}
	return a
}

// power is base to the power of n, whatever its sign.
func power(base int64, n int) *big.Rat {
	whole := new(big.Int).Exp(big.NewInt(base), big.NewInt(int64(max(n, -n))), nil)
	if n < 0 {
		return new(big.Rat).SetFrac(big.NewInt(1), whole)
	}
	return new(big.Rat).SetInt(whole)
}

// size is an independent reading of a number, without its sign.
func size(x api.Exact) *big.Rat {
	r := new(big.Rat).SetInt(toBig(x.N))
	r.Mul(r, power(2, x.Two))
	return r.Mul(r, power(5, x.Five))
}

// log2 is the greatest power of two at most x, which is above 0.
func log2(x *big.Rat) int {
	e := x.Num().BitLen() - x.Denom().BitLen()
	if power(2, e).Cmp(x) > 0 {
		e--
	}
	return e
}

// wholeOf is x by 2 to the power of e, rounded to a whole number, of two that are as near to the even one.
func wholeOf(x *big.Rat, e int) *big.Int {
	y := new(big.Rat).Mul(x, power(2, -e))
	n, left := new(big.Int).QuoRem(y.Num(), y.Denom(), new(big.Int))
	side := left.Lsh(left, 1).Cmp(y.Denom())
	if side > 0 || side == 0 && n.Bit(0) == 1 {
		n.Add(n, big.NewInt(1))
	}
	return n
}

// cutPosit writes the bits of x as a posit of no width would have them, cuts them off, and rounds by
// what is cut off. No boundary between keys is asked for.
func cutPosit(width int, x *big.Rat) (uint64, bool) {
	e := log2(x)
	regime := e >> 2
	text := strings.Repeat("0", max(0, -regime)) + "1"
	if regime >= 0 {
		text = strings.Repeat("1", regime+1) + "0"
	}
	frac := new(big.Rat).Mul(x, power(2, width-e))
	whole, left := new(big.Int).QuoRem(frac.Num(), frac.Denom(), new(big.Int))
	text += fmt.Sprintf("%02b%s", e&3, whole.Text(2)[1:])
	if left.Sign() != 0 {
		text += "1"
	}
	key, err := strconv.ParseUint(text[:width-1], 2, 64)
	if err != nil {
		panic(err)
	}
	if text[width-1] == '1' && (key%2 == 1 || strings.Contains(text[width:], "1")) {
		key++
	}
	most := uint64(1)<<(width-1) - 1
	return max(1, min(key, most)), key > most
}

// nearest is the key of a size, and whether it is too large, by the arithmetic of each kind.
func nearest(f forms.Form, neg bool, x *big.Rat) (uint64, bool) {
	key := new(big.Int)
	switch {
	case x.Sign() == 0:
		return 0, false
	case f.Kind == forms.Tapered:
		return cutPosit(f.Width, x)
	case f.Kind == forms.Turned:
		key = wholeOf(x, -f.Man)
	case f.Kind == forms.Signed:
		e := max(log2(x), 1-f.Bias)
		steps := new(big.Int).Lsh(big.NewInt(int64(e-1+f.Bias)), uint(f.Man))
		key.Add(steps, wholeOf(x, e-f.Man))
	default:
		e := log2(x)
		key.SetInt64(int64(max(e+f.Bias, 0)))
		if side := x.Cmp(new(big.Rat).Mul(power(2, e), big.NewRat(3, 2))); e >= -f.Bias && (side > 0 || side == 0 && key.Bit(0) == 1) {
			key.Add(key, big.NewInt(1))
		}
	}
	most := new(big.Int).SetUint64(mostOf(f, neg))
	if key.Cmp(most) > 0 {
		return most.Uint64(), true
	}
	return key.Uint64(), false
}

func mostOf(f forms.Form, neg bool) uint64 {
	if f.Kind == forms.Turned && neg {
		return 128
	}
	return f.Top
}

// patternOf is the pattern of a key.
func patternOf(f forms.Form, neg bool, key uint64) uint64 {
	switch {
	case !neg:
		return key
	case f.Kind == forms.Signed:
		return key + 1<<(f.Width-1)
	}
	return -key & (math.MaxUint64 >> (64 - f.Width))
}

// patternWhenLarge has what becomes of numbers that are too large in a row a form: with Saturate, with
// Special, and both below nought. It is written out.
var patternWhenLarge = map[int][4]uint64{
	api.Posit8: {0x7F, 0x7F, 0x81, 0x81}, api.Posit16: {0x7FFF, 0x7FFF, 0x8001, 0x8001}, api.Posit32: {0x7FFFFFFF, 0x7FFFFFFF, 0x80000001, 0x80000001},
	api.Posit64: {1<<63 - 1, 1<<63 - 1, 1<<63 + 1, 1<<63 + 1},
	api.E4M3:    {0x7E, 0x7F, 0xFE, 0x7F}, api.E5M2: {0x7B, 0x7C, 0xFB, 0xFC},
	api.E3M2: {0x1F, 0x1F, 0x3F, 0x3F}, api.E2M3: {0x1F, 0x1F, 0x3F, 0x3F}, api.E2M1: {7, 7, 0xF, 0xF},
	api.Int8: {0x7F, 0x7F, 0x80, 0x80}, api.E8M0: {0xFE, 0xFF, 0xFF, 0xFF},
	api.Binary16: {0x7BFF, 0x7C00, 0xFBFF, 0xFC00}, api.Binary32: {0x7F7FFFFF, 0x7F800000, 0xFF7FFFFF, 0xFF800000},
	api.Binary64: {0x7FEFFFFFFFFFFFFF, 0x7FF0000000000000, 0xFFEFFFFFFFFFFFFF, 0xFFF0000000000000},
}

// rounded is the pattern of a number of that sign and size.
func rounded(form, mode int, neg bool, x *big.Rat) uint64 {
	key, over := nearest(formOf(form), neg, x)
	return chosen(form, mode, neg, x.Sign() == 0, key, over)
}

// chosen is the pattern of a number of that sign, when it is known whether it is nought, its key, and
// whether it is too large.
func chosen(form, mode int, neg, nought bool, key uint64, over bool) uint64 {
	f := formOf(form)
	if f.Kind == forms.Scale && (neg || nought) {
		return 0xFF
	}
	if !over {
		return patternOf(f, neg, key)
	}
	column := mode - api.Saturate
	if neg {
		column += 2
	}
	return patternWhenLarge[form][column]
}

func formOf(form int) forms.Form {
	f, err := forms.Of(form)
	if err != api.OK {
		panic(err)
	}
	return f
}

// signs are those that numbers of the form may have.
func signs(f forms.Form) []bool {
	if f.Kind == forms.Scale {
		return []bool{false}
	}
	return []bool{false, true}
}

// keysOf are keys up to most, rising: all of few; of many some everywhere, and those about each turn of a bit.
func keysOf(most uint64) []uint64 {
	var list []uint64
	if most < 1<<8 {
		for key := range most + 1 {
			list = append(list, key)
		}
		return list
	}
	mixed := most
	for i := range uint64(64) {
		turn := uint64(1) << i
		for near := range uint64(3) {
			list = append(list, turn+near, turn-near, turn|turn<<1-near, turn|turn>>1|near, most-turn+near, most>>1-turn-near)
			mixed = mixed*6364136223846793005 + 1442695040888963407
			list = append(list, mixed>>i, most-mixed>>i, most&mixed)
		}
	}
	list = slices.DeleteFunc(append(list, 0, most), func(key uint64) bool { return key > most })
	slices.Sort(list)
	return slices.Compact(list)
}

// near is m times 2 to the power of e, or as little as 2 to the power of -64 of its last place to that side of it.
func near(m uint64, e, side int) api.Exact {
	switch {
	case side == 0 || m == 0:
		return num(m, e, 0)
	case side > 0:
		return long(api.Nat{1, m}, e-64, 0)
	case m == 1:
		return num(math.MaxUint64, e-64, 0)
	}
	return long(api.Nat{math.MaxUint64, m - 1}, e-64, 0)
}

// about are numbers at a key and at the boundary behind it, and close to both on each side.
func about(form int, key uint64) []api.Exact {
	var list []api.Exact
	for _, place := range []func(int, uint64) (uint64, int, api.Errno){value.At, value.Between} {
		m, e, _ := place(form, key)
		for _, side := range []int{-1, 0, 1} {
			list = append(list, near(m, e, side))
		}
	}
	return list
}

// asDecimal is the same number, which is whole by a power of two below 0, as digits by a power of ten.
func asDecimal(x api.Exact) api.Exact {
	if x.Two >= 0 {
		return x
	}
	n := new(big.Int).Mul(toBig(x.N), power(5, -x.Two).Num())
	return api.Exact{Neg: x.Neg, N: fromBig(n), Two: x.Two, Five: x.Two}
}

// spread are numbers of all sizes, many digits and few, with powers of two and five of either sign.
func spread() []api.Exact {
	list := []api.Exact{long(full(128), 5000, 5000), long(full(128), -5000, -5000), num(1, -5000, -5000), num(1, 5000, 5000), num(1, 5000, -5000), num(1, -5000, 5000)}
	mixed := uint64(20)
	for i := range 400 {
		mixed = mixed*6364136223846793005 + 1442695040888963407
		n := full(1 + i%5)
		for j := range n {
			mixed = mixed*6364136223846793005 + 1442695040888963407
			n[j] = mixed ^ mixed>>31
		}
		n[len(n)-1] = n[len(n)-1]>>(mixed%64) | 1
		reach := []int{4, 12, 30, 130, 260, 1100}[i%6]
		five := int(mixed>>20%uint64(reach+1)) - reach/2
		two := int(mixed>>40%uint64(2*reach+1)) - reach - five*7/3 - (i%5)*64
		list = append(list, long(n, two, five))
	}
	return list
}

func bits32(x float32) uint64 { return uint64(math.Float32bits(x)) }

func bits64(x float64) uint64 { return math.Float64bits(x) }

// parse64 and parse32 are what the library of the machine's language makes of a text.
func parse64(t *testing.T, digits string, k int) uint64 { return bits64(parsed(t, digits, k, 64)) }

func parse32(t *testing.T, digits string, k int) uint64 {
	return bits32(float32(parsed(t, digits, k, 32)))
}

func parsed(t *testing.T, digits string, k, width int) float64 {
	t.Helper()
	x, err := strconv.ParseFloat(digits+"e"+strconv.Itoa(k), width)
	if err != nil && !math.IsInf(x, 0) {
		t.Fatal(err)
	}
	return x
}
