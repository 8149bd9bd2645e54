package parse_test

import (
	"math"
	"math/big"
	"slices"
	"strconv"
	"strings"
	"testing"

	"caliper/api"
	"caliper/forms"
	"caliper/parse"
	"caliper/value"
)

// noForms are numbers of no form.
var noForms = []int{0, 15, 16, 99, -1, -14, 256 + 1, 1<<32 + 1, math.MinInt32, math.MaxInt32, math.MinInt, math.MaxInt}

// noModes are neither Saturate nor Special.
var noModes = []int{0, 3, 4, -1, -2, 256 + 1, 1<<32 + 1, 1<<32 + 2, math.MinInt, math.MaxInt}

var modes = []int{api.Saturate, api.Special}

// large has what becomes of numbers that are too large in a row a form: with Saturate, with Special, and
// both below nought. It is written out.
var large = map[int][4]uint64{
	api.Posit8: {0x7F, 0x7F, 0x81, 0x81}, api.Posit16: {0x7FFF, 0x7FFF, 0x8001, 0x8001}, api.Posit32: {0x7FFFFFFF, 0x7FFFFFFF, 0x80000001, 0x80000001},
	api.Posit64: {1<<63 - 1, 1<<63 - 1, 1<<63 + 1, 1<<63 + 1},
	api.E4M3:    {0x7E, 0x7F, 0xFE, 0x7F}, api.E5M2: {0x7B, 0x7C, 0xFB, 0xFC},
	api.E3M2: {0x1F, 0x1F, 0x3F, 0x3F}, api.E2M3: {0x1F, 0x1F, 0x3F, 0x3F}, api.E2M1: {7, 7, 0xF, 0xF},
	api.Int8: {0x7F, 0x7F, 0x80, 0x80}, api.E8M0: {0xFE, 0xFF, 0xFF, 0xFF},
	api.Binary16: {0x7BFF, 0x7C00, 0xFBFF, 0xFC00}, api.Binary32: {0x7F7FFFFF, 0x7F800000, 0xFF7FFFFF, 0xFF800000},
	api.Binary64: {0x7FEFFFFFFFFFFFFF, 0x7FF0000000000000, 0xFFEFFFFFFFFFFFFF, 0xFFF0000000000000},
}

// small has what becomes of numbers that are too small, and of such ones below nought.
var small = map[int][2]uint64{
	api.Posit8: {1, 0xFF}, api.Posit16: {1, 0xFFFF}, api.Posit32: {1, 0xFFFFFFFF}, api.Posit64: {1, math.MaxUint64},
	api.E4M3: {0, 0x80}, api.E5M2: {0, 0x80}, api.E3M2: {0, 0x20}, api.E2M3: {0, 0x20}, api.E2M1: {0, 8}, api.Int8: {0, 0}, api.E8M0: {0, 0xFF},
	api.Binary16: {0, 0x8000}, api.Binary32: {0, 0x80000000}, api.Binary64: {0, 1 << 63},
}

// noughts has the patterns of 0, and of -0.
var noughts = map[int][2]uint64{
	api.Posit8: {0, 0}, api.Posit16: {0, 0}, api.Posit32: {0, 0}, api.Posit64: {0, 0},
	api.E4M3: {0, 0x80}, api.E5M2: {0, 0x80}, api.E3M2: {0, 0x20}, api.E2M3: {0, 0x20}, api.E2M1: {0, 8}, api.Int8: {0, 0}, api.E8M0: {0xFF, 0xFF},
	api.Binary16: {0, 0x8000}, api.Binary32: {0, 0x80000000}, api.Binary64: {0, 1 << 63},
}

// want asks for just this pattern.
func want(t *testing.T, form, mode int, s string, p uint64) {
	t.Helper()
	if got, place, err := parse.Parse(form, mode, s); got != p || place != 0 || err != api.OK {
		t.Errorf("%d, %d, %s: %X, %d, %v, want %X", form, mode, brief(s), got, place, err, p)
	}
}

// wantBoth asks for it whatever becomes of what is too large.
func wantBoth(t *testing.T, form int, s string, p uint64) {
	t.Helper()
	for _, mode := range modes {
		want(t, form, mode, s, p)
	}
}

// wantError asks for that error at that place, and for no pattern beside it.
func wantError(t *testing.T, form, mode int, s string, place int, err api.Errno) {
	t.Helper()
	if p, at, got := parse.Parse(form, mode, s); p != 0 || at != place || got != err {
		t.Errorf("%d, %d, %s: %X, %d, %v, want %d, %v", form, mode, brief(s), p, at, got, place, err)
	}
}

func brief(s string) string {
	if len(s) > 90 {
		return strconv.Quote(s[:40]) + ".." + strconv.Quote(s[len(s)-30:]) + " (" + strconv.Itoa(len(s)) + " bytes)"
	}
	return strconv.Quote(s)
}

func zeros(n int) string { return strings.Repeat("0", n) }

func nines(n int) string { return strings.Repeat("9", n) }

// decimal is a number's size in digits, times 10 to the power of k.
type decimal struct {
	digits string
	k      int
}

// decimalOf is m times 2 to the power of e; 0 has no digits.
func decimalOf(m uint64, e int) decimal {
	n, k := new(big.Int).SetUint64(m), 0
	if e >= 0 {
		n.Lsh(n, uint(e))
	} else {
		n.Mul(n, new(big.Int).Exp(big.NewInt(5), big.NewInt(int64(-e)), nil))
		k = e
	}
	if m == 0 {
		return decimal{}
	}
	return decimal{n.String(), k}
}

// above is a little more: as many noughts and a 1 behind the digits.
func (d decimal) above(n int) decimal {
	return decimal{d.digits + zeros(n) + "1", d.k - n - 1}
}

// under is a little less: the last digit's unit is as many nines instead.
func (d decimal) under(n int) decimal {
	whole, _ := new(big.Int).SetString(d.digits, 10)
	whole.Sub(whole, big.NewInt(1))
	return decimal{whole.String() + nines(n), d.k - n}
}

// texts are ways to write the same number.
func (d decimal) texts() []string {
	power := func(k int) string { return strconv.Itoa(k) }
	list := []string{
		d.digits + "e" + power(d.k),
		d.digits + ".E" + power(d.k),
		d.digits[:1] + "." + d.digits[1:] + "00e" + power(d.k+len(d.digits)-1),
		"." + d.digits + "E" + power(d.k+len(d.digits)),
		"000" + d.digits + "0000.00e" + power(d.k-4),
		".000" + d.digits + "e" + power(d.k+len(d.digits)+3),
		d.plain(),
	}
	if d.k >= 0 {
		list = append(list, d.digits+"e+00"+power(d.k))
	}
	return list
}

// plain has no power of ten behind it.
func (d decimal) plain() string {
	if d.k >= 0 {
		return d.digits + zeros(d.k)
	}
	all := zeros(max(0, 1-d.k-len(d.digits))) + d.digits
	return all[:len(all)+d.k] + "." + all[len(all)+d.k:]
}

func formOf(form int) forms.Form {
	f, err := forms.Of(form)
	if err != api.OK {
		panic(err)
	}
	return f
}

// signs are those that numbers of the form may have.
func signs(f forms.Form) []bool {
	if f.Kind == forms.Scale {
		return []bool{false}
	}
	return []bool{false, true}
}

func mostOf(f forms.Form, neg bool) uint64 {
	if f.Kind == forms.Turned && neg {
		return 128
	}
	return f.Top
}

// patternOf is the pattern of a key, or of what is too large, if it is beyond most.
func patternOf(form, mode int, neg bool, key uint64) uint64 {
	f := formOf(form)
	switch {
	case key > mostOf(f, neg):
		column := mode - api.Saturate
		if neg {
			column += 2
		}
		return large[form][column]
	case !neg:
		return key
	case f.Kind == forms.Signed:
		return key + 1<<(f.Width-1)
	}
	return -key & (math.MaxUint64 >> (64 - f.Width))
}

// keysOf are keys up to most, rising: all of few; of many some everywhere, and those about each turn of a bit.
func keysOf(most uint64) []uint64 {
	var list []uint64
	if most < 1<<8 {
		for key := range most + 1 {
			list = append(list, key)
		}
		return list
	}
	mix := mixer(most)
	for i := range uint64(64) {
		turn := uint64(1) << i
		list = append(list, turn-1, turn, turn+1, turn|turn<<1, turn|turn>>1, most-turn, most-turn+1, mix.next()>>i&most, most-mix.next()>>i, most&mix.next())
	}
	list = slices.DeleteFunc(append(list, 0, most), func(key uint64) bool { return key > most })
	slices.Sort(list)
	return slices.Compact(list)
}

// behind is the boundary behind a key.
func behind(form int, key uint64) decimal {
	m, e, err := value.Between(form, key)
	if err != api.OK {
		panic(err)
	}
	return decimalOf(m, e)
}

// keyOf is the least key that the size of a number isn't beyond, one more than the greatest, if it is
// beyond all; found over the boundaries as fractions.
func keyOf(form int, neg bool, size *big.Rat) uint64 {
	f := formOf(form)
	low, high := uint64(0), mostOf(f, neg)+1
	if f.Kind == forms.Tapered && size.Sign() != 0 {
		low = 1
	}
	for low < high {
		middle := low + (high-low)/2
		m, e, _ := value.Between(form, middle)
		boundary := new(big.Rat).SetInt(new(big.Int).SetUint64(m))
		power := new(big.Rat).SetInt(new(big.Int).Lsh(big.NewInt(1), uint(max(e, -e))))
		if e < 0 {
			power.Inv(power)
		}
		side := size.Cmp(boundary.Mul(boundary, power))
		if side > 0 || side == 0 && middle%2 == 1 {
			low = middle + 1
		} else {
			high = middle
		}
	}
	return low
}

// rounded is the pattern of any text of a number whose power is of few digits.
func rounded(t *testing.T, form, mode int, s string) uint64 {
	t.Helper()
	x, ok := new(big.Rat).SetString(s)
	if !ok {
		t.Fatal(brief(s))
	}
	neg := strings.HasPrefix(s, "-")
	column := 0
	if neg {
		column = 1
	}
	switch x.Abs(x); {
	case x.Sign() == 0:
		return noughts[form][column]
	case neg && form == api.E8M0:
		return 0xFF
	}
	return patternOf(form, mode, neg, keyOf(form, neg, x))
}

// mixer tells numbers that look like any, and are always the same ones.
type mixer uint64

func (m *mixer) next() uint64 {
	*m = *m*6364136223846793005 + 1442695040888963407
	return uint64(*m ^ *m>>31)
}

func (m *mixer) below(n int) int { return int(m.next() >> 20 % uint64(n)) }

func (m *mixer) digits(n int) string {
	b := make([]byte, n)
	for i := range b {
		b[i] = byte('0' + m.below(10))
	}
	return string(b)
}

// text is a text of a number whose power of ten is up to reach or so, to either side.
func (m *mixer) text(reach int) string {
	lengths := []int{0, 1, 1, 2, 3, 5, 9, 17, 18, 25, 60, 300}
	whole, frac := lengths[m.below(len(lengths))], lengths[m.below(len(lengths))]
	s := []string{"", "-"}[m.below(2)] + m.digits(whole)
	if frac > 0 {
		s += "." + zeros(m.below(3)) + m.digits(frac)
	} else if whole == 0 {
		s += "7"
	}
	if m.below(4) > 0 {
		s += []string{"e", "E"}[m.below(2)] + strconv.Itoa(m.below(2*reach+1)-reach-whole)
	}
	return s
}
