package print_test

import (
	"math"
	"math/big"
	"regexp"
	"slices"
	"strconv"
	"strings"
	"testing"

	"caliper/api"
	"caliper/print"
	"caliper/value"
)

// noForms are numbers of no form.
var noForms = []int{0, 15, 16, 99, -1, -14, 256 + 1, 1<<32 + 1, math.MinInt32, math.MaxInt32, math.MinInt, math.MinInt + 1, math.MaxInt}

// calls are what answers texts, by its name.
var calls = map[string]func(int, uint64) (string, api.Errno){"Print": print.Print, "PrintFull": print.PrintFull}

var modes = []int{api.Saturate, api.Special}

type kind int

const (
	tapered kind = iota
	signed
	other
)

// row is what the document's table of forms says that matters here.
type row struct {
	form, width   int
	kind          kind
	top, inf, nan uint64
}

var rows = []row{
	{api.Posit8, 8, tapered, 0x7F, 0, 0x80},
	{api.Posit16, 16, tapered, 0x7FFF, 0, 0x8000},
	{api.Posit32, 32, tapered, 0x7FFFFFFF, 0, 0x80000000},
	{api.Posit64, 64, tapered, 0x7FFFFFFFFFFFFFFF, 0, 0x8000000000000000},
	{api.E4M3, 8, signed, 0x7E, 0, 0x7F},
	{api.E5M2, 8, signed, 0x7B, 0x7C, 0x7E},
	{api.E3M2, 6, signed, 0x1F, 0, 0},
	{api.E2M3, 6, signed, 0x1F, 0, 0},
	{api.E2M1, 4, signed, 7, 0, 0},
	{api.Int8, 8, other, 0x7F, 0, 0},
	{api.E8M0, 8, other, 0xFE, 0, 0xFF},
	{api.Binary16, 16, signed, 0x7BFF, 0x7C00, 0x7E00},
	{api.Binary32, 32, signed, 0x7F7FFFFF, 0x7F800000, 0x7FC00000},
	{api.Binary64, 64, signed, 0x7FEFFFFFFFFFFFFF, 0x7FF0000000000000, 0x7FF8000000000000},
}

// eachForm goes through the forms, all at once.
func eachForm(t *testing.T, do func(t *testing.T, r row)) {
	for _, r := range rows {
		t.Run(strconv.Itoa(r.form), func(t *testing.T) {
			t.Parallel()
			do(t, r)
		})
	}
}

func (r row) all() uint64 { return math.MaxUint64 >> (64 - r.width) }

// highest is the highest bit of a pattern.
func (r row) highest() uint64 { return 1 << (r.width - 1) }

// patterns are those of the form: all of up to sixteen bits; of more those about each turn, and some everywhere.
func (r row) patterns() (list []uint64) {
	if r.width <= 16 {
		for p := range r.all() + 1 {
			list = append(list, p)
		}
		return list
	}
	turns := []uint64{0, r.top, r.inf, r.nan, r.all()}
	for i := range r.width {
		turns = append(turns, 1<<i, 3<<i&r.all(), r.all()>>i, r.top>>i)
	}
	mixed := uint64(r.form)
	for _, p := range turns {
		for near := range uint64(3) {
			mixed = mixed*6364136223846793005 + 1442695040888963407
			list = append(list, p+near, p-near, mixed>>(64-r.width), mixed>>1>>(mixed%64))
		}
	}
	for i, p := range list {
		list[i] = p & r.all()
		list = append(list, list[i]^r.highest())
	}
	slices.Sort(list)
	return slices.Compact(list)
}

// word is what the chapter's words have of the pattern, if it is not Finite; nothing of others.
func (r row) word(p uint64) string {
	neg, magnitude := p >= r.highest(), p%r.highest()
	switch {
	case r.kind == tapered && p == r.nan:
		return "NaR"
	case r.kind != signed && p == r.nan && p != 0:
		return "nan"
	case p == 0 && r.form != api.E8M0:
		return "0"
	case r.kind != signed || magnitude > 0 && magnitude <= r.top:
		return ""
	case magnitude == 0:
		return "-0"
	case magnitude != r.inf:
		return "nan"
	case neg:
		return "-inf"
	}
	return "inf"
}

// wantText asks the call of that name for a text.
func wantText(t *testing.T, call string, form int, p uint64, want string) {
	t.Helper()
	if s, err := calls[call](form, p); s != want || err != api.OK {
		t.Errorf("%s of %d, %X: %q, %v, want %q", call, form, p, s, err, want)
	}
}

// wantNone asks both calls for that error, and for nothing beside it.
func wantNone(t *testing.T, form int, p uint64, want api.Errno) {
	t.Helper()
	for name, call := range calls {
		if s, err := call(form, p); s != "" || err != want {
			t.Errorf("%s of %d, %X: %q, %v, want %v", name, form, p, s, err, want)
		}
	}
}

// finiteText is what the call says of a pattern that is a number, and not nought; false: it is not.
func finiteText(t *testing.T, call string, r row, p uint64) (string, bool) {
	t.Helper()
	if r.word(p) != "" {
		return "", false
	}
	s, err := calls[call](r.form, p)
	if err != api.OK {
		t.Errorf("%s of %d, %X: %v", call, r.form, p, err)
	}
	return s, err == api.OK
}

// shapes are the ways of writing digits, and, in the last of them, the power.
var shapes = regexp.MustCompile(`^-?(?:[1-9][0-9]{0,20}|[1-9][0-9]{0,20}\.[0-9]*[1-9]|0\.0{0,5}(?:[1-9][0-9]*)?[1-9]|[1-9](?:\.[0-9]*[1-9])?e(-[1-9][0-9]*|[1-9][0-9]+))$`)

// isShape is whether digits are written so: a power stands from 10^21 on, and below 10^-6. Of each number one text is so.
func isShape(s string) bool {
	m := shapes.FindStringSubmatch(s)
	if m == nil || m[1] == "" {
		return m != nil
	}
	power, err := strconv.Atoi(m[1])
	return err == nil && (power <= -7 || power >= 21)
}

// rat is d times 10 to the power of k.
func rat(d *big.Int, k int) *big.Rat {
	power := new(big.Int).Exp(big.NewInt(10), big.NewInt(int64(max(k, -k))), nil)
	if k < 0 {
		return new(big.Rat).SetFrac(d, power)
	}
	return new(big.Rat).SetInt(power.Mul(power, d))
}

// numberOf is the number of a text.
func numberOf(t *testing.T, s string) *big.Rat {
	t.Helper()
	x, ok := new(big.Rat).SetString(s)
	if !ok {
		t.Errorf("%q is no number", s)
		return new(big.Rat)
	}
	return x
}

// meant is what the pattern means.
func meant(form int, p uint64) *big.Rat {
	v, _ := value.Decode(form, p)
	m, two := new(big.Int).SetUint64(v.M), new(big.Int).Lsh(big.NewInt(1), uint(max(v.E, -v.E)))
	if v.Neg {
		m.Neg(m)
	}
	if v.E < 0 {
		return new(big.Rat).SetFrac(m, two)
	}
	return new(big.Rat).SetInt(m.Mul(m, two))
}

// digitsOf are the digits of a text, without noughts at both ends, and the power of ten of the last.
func digitsOf(s string) (string, int) {
	all, power, _ := strings.Cut(strings.TrimPrefix(s, "-"), "e")
	whole, frac, _ := strings.Cut(all, ".")
	k, _ := strconv.Atoi(power)
	digits := strings.TrimRight(whole+frac, "0")
	return strings.TrimLeft(digits, "0"), k + len(whole) - len(digits)
}
