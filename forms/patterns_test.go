package forms_test

import (
	"math"
	"testing"

	"caliper/api"
	"caliper/forms"
)

// bitsOf are the mask and the sign of each form, written out.
var bitsOf = map[int][2]uint64{
	1: {0xFF, 0x80}, 2: {0xFFFF, 0x8000}, 3: {0xFFFFFFFF, 0x80000000}, 4: {0xFFFFFFFFFFFFFFFF, 0x8000000000000000},
	5: {0xFF, 0x80}, 6: {0xFF, 0x80}, 7: {0x3F, 0x20}, 8: {0x3F, 0x20}, 9: {0xF, 0x8}, 10: {0xFF, 0x80}, 11: {0xFF, 0},
	12: {0xFFFF, 0x8000}, 13: {0xFFFFFFFF, 0x80000000}, 14: {0xFFFFFFFFFFFFFFFF, 0x8000000000000000},
}

func TestMaskAndSign(t *testing.T) {
	for form, want := range bitsOf {
		f, _ := forms.Of(form)
		if got := [2]uint64{f.Mask(), f.Sign()}; got != want {
			t.Errorf("%d: %X, want %X", form, got, want)
		}
	}
}

// Forms that no call has made: the empty one, and widths that no form has.
func TestMaskAndSignOfOthers(t *testing.T) {
	for _, x := range []struct {
		f          forms.Form
		mask, sign uint64
	}{
		{forms.Form{}, 0, 0},
		{forms.Form{Kind: forms.Signed}, 0, 0},
		{forms.Form{Kind: forms.Signed, Width: 1}, 1, 1},
		{forms.Form{Kind: forms.Turned, Width: 63}, 1<<63 - 1, 1 << 62},
		{forms.Form{Kind: forms.Scale, Width: 64}, math.MaxUint64, 0},
		{forms.Form{Kind: forms.Tapered, Width: 65}, math.MaxUint64, 1 << 63},
		{forms.Form{Kind: forms.Tapered, Width: math.MaxInt}, math.MaxUint64, 1 << 63},
		{forms.Form{Kind: forms.Tapered, Width: -1}, 0, 0},
		{forms.Form{Kind: forms.Signed, Width: math.MinInt}, 0, 0},
	} {
		if mask, sign := x.f.Mask(), x.f.Sign(); mask != x.mask || sign != x.sign {
			t.Errorf("%+v: %X, %X", x.f, mask, sign)
		}
	}
}

// A single bit fits just if the form has it; so does each bit beside it.
func TestFits(t *testing.T) {
	for form, masks := range bitsOf {
		for i := range 64 {
			p, want := uint64(1)<<i, api.OK
			if masks[0]&p == 0 {
				want = api.ErrArg
			}
			for _, q := range []uint64{p, p | 1, p | masks[0]} {
				if err := forms.Fits(form, q); err != want {
					t.Errorf("%d, %X: %v, want %v", form, q, err, want)
				}
			}
		}
		for _, p := range []uint64{0, masks[0], masks[1], masks[0] ^ masks[1]} {
			if err := forms.Fits(form, p); err != api.OK {
				t.Errorf("%d, %X: %v", form, p, err)
			}
		}
	}
}

// That there is no such form is told first, whatever the pattern is.
func TestPatternsOfNone(t *testing.T) {
	for _, form := range none {
		for _, p := range []uint64{0, 1, 0x7F, 0xFF, 0x100, 1 << 63, math.MaxUint64} {
			if err := forms.Fits(form, p); err != api.ErrForm {
				t.Errorf("Fits: %d, %X: %v", form, p, err)
			}
			if q, err := forms.Canon(form, p); q != 0 || err != api.ErrForm {
				t.Errorf("Canon: %d, %X: %X, %v", form, p, q, err)
			}
		}
	}
}

func TestCanonThatDoesNotFit(t *testing.T) {
	for form, masks := range bitsOf {
		for i := range 64 {
			p := uint64(1) << i
			if masks[0]&p != 0 {
				continue
			}
			for _, q := range []uint64{p, p | masks[0], p | rows[form].NaN, p | rows[form].Inf} {
				if c, err := forms.Canon(form, q); c != 0 || err != api.ErrArg {
					t.Errorf("%d, %X: %X, %v", form, q, c, err)
				}
			}
		}
	}
}

func wantCanon(t *testing.T, form int, p, want uint64) {
	t.Helper()
	c, err := forms.Canon(form, p)
	if c != want || err != api.OK {
		t.Errorf("%d, %X: %X, %v, want %X", form, p, c, err, want)
	}
	if again, err := forms.Canon(form, c); again != c || err != api.OK {
		t.Errorf("%d, %X: %X once more: %X, %v", form, p, c, again, err)
	}
}

// fieldsOf are the exponent and the mantissa of a form with infinities, and of E4M3.
func fieldsOf(form int, p uint64) (uint64, uint64) {
	widths := map[int][2]int{5: {4, 3}, 6: {5, 2}, 12: {5, 10}, 13: {8, 23}, 14: {11, 52}}[form]
	exponent := p >> widths[1] & (1<<widths[0] - 1)
	return exponent, p & (1<<widths[1] - 1)
}

// isNone tells by the fields of a pattern whether it is none of a number, nor infinite.
func isNone(form int, p uint64) bool {
	exponent, mantissa := fieldsOf(form, p)
	switch form {
	case api.E4M3:
		return exponent == 15 && mantissa == 7
	case api.E5M2, api.Binary16:
		return exponent == 31 && mantissa != 0
	case api.Binary32:
		return exponent == 255 && mantissa != 0
	case api.Binary64:
		return exponent == 2047 && mantissa != 0
	}
	return false
}

// All patterns of the forms that have no more than sixteen bits.
func TestCanonAllOfThem(t *testing.T) {
	one := map[int]uint64{api.E4M3: 0x7F, api.E5M2: 0x7E, api.Binary16: 0x7E00}
	for form, masks := range bitsOf {
		if masks[0] > 0xFFFF {
			continue
		}
		for p := range masks[0] + 1 {
			want := p
			if isNone(form, p) {
				want = one[form]
			}
			wantCanon(t, form, p, want)
		}
	}
}

// The patterns of the wide forms, about those where what they mean turns.
func TestCanonOfWideOnes(t *testing.T) {
	near := func(form int, turns []uint64, one uint64) {
		for _, turn := range turns {
			for p := turn - 40; p != turn+41; p++ {
				q := p & bitsOf[form][0]
				want := q
				if isNone(form, q) {
					want = one
				}
				wantCanon(t, form, q, want)
			}
		}
	}
	near(api.Posit32, []uint64{0, 1 << 30, 1 << 31, 3 << 30}, 0)
	near(api.Posit64, []uint64{0, 1 << 62, 1 << 63, 3 << 62}, 0)
	near(api.Binary32, []uint64{0, 0x7F7FFFFF, 0x7F800000, 0x7FC00000, 0x80000000, 0xFF7FFFFF, 0xFF800000, 0xFFC00000}, 0x7FC00000)
	near(api.Binary64, []uint64{0, 0x7FEFFFFFFFFFFFFF, 0x7FF0000000000000, 0x7FF8000000000000,
		1 << 63, 0xFFEFFFFFFFFFFFFF, 0xFFF0000000000000, 0xFFF8000000000000}, 0x7FF8000000000000)
	for i := range 63 {
		p := uint64(1) << i
		near(api.Binary64, []uint64{0x7FF0000000000000 | p, 0xFFF0000000000000 | p, p}, 0x7FF8000000000000)
	}
}

func TestCanonTable(t *testing.T) {
	for _, x := range []struct {
		form    int
		p, want uint64
	}{
		{api.E5M2, 0xFF, 0x7E}, {api.E5M2, 0x7D, 0x7E}, {api.E5M2, 0xFD, 0x7E}, {api.E5M2, 0x7C, 0x7C}, {api.E5M2, 0xFC, 0xFC},
		{api.E5M2, 0x7B, 0x7B}, {api.E5M2, 0xFB, 0xFB}, {api.E5M2, 0x80, 0x80},
		{api.E4M3, 0x7F, 0x7F}, {api.E4M3, 0xFF, 0x7F}, {api.E4M3, 0x7E, 0x7E}, {api.E4M3, 0xFE, 0xFE}, {api.E4M3, 0x80, 0x80},
		{api.E3M2, 0x1F, 0x1F}, {api.E3M2, 0x3F, 0x3F}, {api.E3M2, 0x20, 0x20},
		{api.E2M3, 0x1F, 0x1F}, {api.E2M3, 0x3F, 0x3F}, {api.E2M3, 0x20, 0x20},
		{api.E2M1, 0x7, 0x7}, {api.E2M1, 0xF, 0xF}, {api.E2M1, 0x8, 0x8},
		{api.Posit8, 0x80, 0x80}, {api.Posit16, 0x8000, 0x8000}, {api.Posit32, 0x80000000, 0x80000000}, {api.Posit64, 1 << 63, 1 << 63},
		{api.Posit8, 0xFF, 0xFF}, {api.Posit8, 0, 0}, {api.Posit64, math.MaxUint64, math.MaxUint64},
		{api.Int8, 0x80, 0x80}, {api.Int8, 0xFF, 0xFF}, {api.Int8, 0x7F, 0x7F},
		{api.E8M0, 0xFF, 0xFF}, {api.E8M0, 0xFE, 0xFE}, {api.E8M0, 0, 0},
		{api.Binary16, 0x7C01, 0x7E00}, {api.Binary16, 0xFC01, 0x7E00}, {api.Binary16, 0xFE00, 0x7E00}, {api.Binary16, 0xFC00, 0xFC00},
		{api.Binary32, 0xFFC00001, 0x7FC00000}, {api.Binary32, 0x7F800001, 0x7FC00000}, {api.Binary32, 0xFF800000, 0xFF800000},
		{api.Binary64, math.MaxUint64, 0x7FF8000000000000}, {api.Binary64, 0x7FF0000000000001, 0x7FF8000000000000},
		{api.Binary64, 0xFFF0000000000000, 0xFFF0000000000000}, {api.Binary64, 1 << 63, 1 << 63},
	} {
		wantCanon(t, x.form, x.p, x.want)
	}
}
