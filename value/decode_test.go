package value_test

import (
	"fmt"
	"math"
	"math/big"
	"testing"

	"caliper/api"
	"caliper/value"
)

func wantValue(t *testing.T, form int, p uint64, want api.Value) {
	t.Helper()
	if v, err := value.Decode(form, p); v != want || err != api.OK {
		t.Errorf("%d, %X: %+v, %v, want %+v", form, p, v, err, want)
	}
}

// decoded is what the pattern is, which must be as api.Value says it.
func decoded(t *testing.T, form int, p uint64) api.Value {
	t.Helper()
	v, err := value.Decode(form, p)
	if err != api.OK || (v.Class == api.Finite) != (v.M&1 == 1) || v.Class != api.Finite && (v.M != 0 || v.E != 0) {
		t.Errorf("%d, %X: %+v, %v", form, p, v, err)
	}
	return v
}

func wantNumber(t *testing.T, form int, p uint64, want *big.Rat) {
	t.Helper()
	v := decoded(t, form, p)
	if v.Class != api.Finite || number(v).Cmp(want) != 0 {
		t.Errorf("%d, %X: %+v, want %v", form, p, v, want)
	}
}

func finite(m uint64, e int) api.Value { return api.Value{Class: api.Finite, M: m, E: e} }

func below(m uint64, e int) api.Value { return api.Value{Class: api.Finite, Neg: true, M: m, E: e} }

var (
	zero = api.Value{Class: api.Zero}
	inf  = api.Value{Class: api.Inf}
	nan  = api.Value{Class: api.NaN}

	zeroBelow = api.Value{Class: api.Zero, Neg: true}
	infBelow  = api.Value{Class: api.Inf, Neg: true}
)

func TestDecodeTable(t *testing.T) {
	for _, x := range []struct {
		form int
		p    uint64
		want api.Value
	}{
		{api.Posit8, 0, zero}, {api.Posit8, 0x80, nan}, {api.Posit8, 0x40, finite(1, 0)}, {api.Posit8, 0xC0, below(1, 0)},
		{api.Posit8, 1, finite(1, -24)}, {api.Posit8, 0xFF, below(1, -24)}, {api.Posit8, 0x7F, finite(1, 24)}, {api.Posit8, 0x81, below(1, 24)},
		{api.Posit8, 0x4C, finite(3, 0)}, {api.Posit8, 0xB4, below(3, 0)},
		{api.Posit16, 0, zero}, {api.Posit16, 0x8000, nan}, {api.Posit16, 0x8001, below(1, 56)}, {api.Posit16, 0xFFFF, below(1, -56)},
		{api.Posit32, 0x80000000, nan}, {api.Posit32, 0x80000001, below(1, 120)}, {api.Posit32, 0x7FFFFFFF, finite(1, 120)},
		{api.Posit64, 0, zero}, {api.Posit64, 1 << 63, nan}, {api.Posit64, 1<<63 | 1, below(1, 248)}, {api.Posit64, math.MaxUint64, below(1, -248)},
		{api.Posit64, 3 << 62, below(1, 0)}, {api.Posit64, 1<<62 | 1, finite(1<<59|1, -59)}, {api.Posit64, 3<<62 - 1, below(1<<59|1, -59)},
		{api.E4M3, 0, zero}, {api.E4M3, 0x80, zeroBelow}, {api.E4M3, 0x7E, finite(7, 6)}, {api.E4M3, 0xFE, below(7, 6)}, {api.E4M3, 0x7F, nan}, {api.E4M3, 0xFF, nan},
		{api.E4M3, 1, finite(1, -9)}, {api.E4M3, 0x38, finite(1, 0)}, {api.E4M3, 0x78, finite(1, 8)},
		{api.E5M2, 0x7B, finite(7, 13)}, {api.E5M2, 0x7C, inf}, {api.E5M2, 0xFC, infBelow}, {api.E5M2, 0x7D, nan}, {api.E5M2, 0x7E, nan}, {api.E5M2, 0x7F, nan},
		{api.E5M2, 0xFD, nan}, {api.E5M2, 0xFE, nan}, {api.E5M2, 0xFF, nan}, {api.E5M2, 0x80, zeroBelow},
		{api.E3M2, 0x1F, finite(7, 2)}, {api.E3M2, 0x3F, below(7, 2)}, {api.E3M2, 0x20, zeroBelow}, {api.E3M2, 0, zero}, {api.E3M2, 1, finite(1, -4)},
		{api.E2M3, 0x1F, finite(15, -1)}, {api.E2M3, 0x3F, below(15, -1)}, {api.E2M3, 0x20, zeroBelow}, {api.E2M3, 0, zero}, {api.E2M3, 1, finite(1, -3)},
		{api.E2M1, 7, finite(3, 1)}, {api.E2M1, 0xF, below(3, 1)}, {api.E2M1, 8, zeroBelow}, {api.E2M1, 0, zero}, {api.E2M1, 1, finite(1, -1)},
		{api.Int8, 0, zero}, {api.Int8, 0x40, finite(1, 0)}, {api.Int8, 0xC0, below(1, 0)}, {api.Int8, 0x80, below(1, 1)}, {api.Int8, 0x7F, finite(127, -6)},
		{api.Int8, 0xFF, below(1, -6)}, {api.Int8, 3, finite(3, -6)}, {api.Int8, 0x81, below(127, -6)},
		{api.E8M0, 0, finite(1, -127)}, {api.E8M0, 1, finite(1, -126)}, {api.E8M0, 127, finite(1, 0)}, {api.E8M0, 128, finite(1, 1)}, {api.E8M0, 0xFE, finite(1, 127)}, {api.E8M0, 0xFF, nan},
		{api.Binary16, 0x7BFF, finite(2047, 5)}, {api.Binary16, 0x7C00, inf}, {api.Binary16, 0xFC00, infBelow}, {api.Binary16, 0x7C01, nan}, {api.Binary16, 0xFFFF, nan},
		{api.Binary16, 0x8000, zeroBelow}, {api.Binary16, 0x3C00, finite(1, 0)}, {api.Binary16, 1, finite(1, -24)},
		{api.Binary32, 0x7F7FFFFF, finite(1<<24-1, 104)}, {api.Binary32, 0x7F800000, inf}, {api.Binary32, 0xFF800000, infBelow}, {api.Binary32, 0x7F800001, nan},
		{api.Binary32, 0x80000000, zeroBelow}, {api.Binary32, 0xFFC00000, nan}, {api.Binary32, 0x80000001, below(1, -149)},
		{api.Binary64, 0x7FEFFFFFFFFFFFFF, finite(1<<53-1, 971)}, {api.Binary64, 0x7FF0000000000000, inf}, {api.Binary64, 0xFFF0000000000000, infBelow},
		{api.Binary64, 0x7FF0000000000001, nan}, {api.Binary64, math.MaxUint64, nan}, {api.Binary64, 1 << 63, zeroBelow}, {api.Binary64, 0x8000000000000001, below(1, -1074)},
	} {
		wantValue(t, x.form, x.p, x.want)
	}
}

func TestDecodePosits(t *testing.T) {
	for _, r := range rows[:4] {
		for _, p := range r.patterns() {
			switch p {
			case 0:
				wantValue(t, r.form, p, zero)
			case r.nan:
				wantValue(t, r.form, p, nan)
			default:
				wantNumber(t, r.form, p, positOf(fmt.Sprintf("%0*b", r.width, p)))
				if v := decoded(t, r.form, p); v.Neg != (p > r.nan) {
					t.Errorf("%d, %X: %+v", r.form, p, v)
				}
			}
		}
	}
}

// All of the small Signed forms, written out as times of the least number above 0.
func TestDecodeSmall(t *testing.T) {
	for form, x := range map[int]struct {
		width, least int
		sizes        []uint64
	}{
		api.E2M1: {4, -1, []uint64{0, 1, 2, 3, 4, 6, 8, 12}},
		api.E2M3: {6, -3, []uint64{0, 1, 2, 3, 4, 5, 6, 7, 8, 9, 10, 11, 12, 13, 14, 15, 16, 18, 20, 22, 24, 26, 28, 30, 32, 36, 40, 44, 48, 52, 56, 60}},
		api.E3M2: {6, -4, []uint64{0, 1, 2, 3, 4, 5, 6, 7, 8, 10, 12, 14, 16, 20, 24, 28, 32, 40, 48, 56, 64, 80, 96, 112, 128, 160, 192, 224, 256, 320, 384, 448}},
	} {
		wantValue(t, form, 0, zero)
		wantValue(t, form, 1<<(x.width-1), zeroBelow)
		for p, size := range x.sizes[1:] {
			want := times(size, x.least)
			wantNumber(t, form, uint64(p+1), want)
			wantNumber(t, form, uint64(p+1)|1<<(x.width-1), want.Neg(want))
		}
	}
}

// What the patterns of Signed forms are, by what the document's table says of the magnitudes.
func TestDecodeSigned(t *testing.T) {
	for _, r := range rows {
		if r.kind != signed {
			continue
		}
		for _, p := range r.patterns() {
			neg, magnitude := p >= r.highest(), p%r.highest()
			switch {
			case magnitude == 0:
				wantValue(t, r.form, p, api.Value{Class: api.Zero, Neg: neg})
			case magnitude <= r.top:
				want := miniOf(r.man, r.bias, magnitude)
				if neg {
					want.Neg(want)
				}
				wantNumber(t, r.form, p, want)
			case r.inf != 0 && magnitude == r.inf:
				wantValue(t, r.form, p, api.Value{Class: api.Inf, Neg: neg})
			default:
				wantValue(t, r.form, p, nan)
			}
		}
	}
}

// wantFloat holds what a pattern is against the machine's own number.
func wantFloat(t *testing.T, form int, p uint64, x float64) {
	t.Helper()
	switch {
	case math.IsNaN(x):
		wantValue(t, form, p, nan)
	case math.IsInf(x, 0):
		wantValue(t, form, p, api.Value{Class: api.Inf, Neg: x < 0})
	case x == 0:
		wantValue(t, form, p, api.Value{Class: api.Zero, Neg: math.Signbit(x)})
	default:
		wantNumber(t, form, p, new(big.Rat).SetFloat64(x))
	}
}

func TestDecodeFloats(t *testing.T) {
	for _, p := range rows[12].patterns() {
		wantFloat(t, api.Binary32, p, float64(math.Float32frombits(uint32(p))))
	}
	for _, p := range rows[13].patterns() {
		wantFloat(t, api.Binary64, p, math.Float64frombits(p))
	}
}

func TestDecodeInt8(t *testing.T) {
	wantValue(t, api.Int8, 0, zero)
	for n := -128; n <= 127; n++ {
		if n != 0 {
			wantNumber(t, api.Int8, uint64(uint8(n)), big.NewRat(int64(n), 64))
		}
	}
}

func TestDecodeScale(t *testing.T) {
	for p := range 255 {
		wantValue(t, api.E8M0, uint64(p), finite(1, p-127))
	}
	wantValue(t, api.E8M0, 255, nan)
}

// wantNoPattern asks both calls that are handed a pattern.
func wantNoPattern(t *testing.T, form int, p uint64, want api.Errno) {
	t.Helper()
	if v, err := value.Decode(form, p); v != (api.Value{}) || err != want {
		t.Errorf("Decode of %d, %X: %+v, %v, want %v", form, p, v, err, want)
	}
	if neg, key, err := value.Key(form, p); neg || key != 0 || err != want {
		t.Errorf("Key of %d, %X: %v, %X, %v, want %v", form, p, neg, key, err, want)
	}
}

// A bit that the form has not is told, whatever the others are.
func TestPatternsThatDoNotFit(t *testing.T) {
	for _, r := range rows {
		for i := r.width; i < 64; i++ {
			wide := uint64(1) << i
			for _, p := range []uint64{wide, wide | 1, wide | r.top, wide | r.inf, wide | r.nan, wide | r.all(), math.MaxUint64} {
				wantNoPattern(t, r.form, p, api.ErrArg)
			}
		}
	}
}

// That there is no such form is told first.
func TestPatternsOfNoForm(t *testing.T) {
	for _, form := range noForms {
		for _, p := range someKeys {
			wantNoPattern(t, form, p, api.ErrForm)
		}
	}
}
