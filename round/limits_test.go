package round_test

import (
	"math"
	"slices"
	"testing"

	"caliper/api"
	"caliper/forms"
	"caliper/round"
)

func same(a, b api.Exact) bool {
	return a.Neg == b.Neg && slices.Equal(a.N, b.N) && a.Two == b.Two && a.Five == b.Five
}

func wantNoLimits(t *testing.T, form int, p uint64, want api.Errno) {
	t.Helper()
	low, high, even, err := round.Limits(form, p)
	if !same(low, api.Exact{}) || !same(high, api.Exact{}) || even || err != want {
		t.Errorf("Limits of %d, %X: %v, %v, %v, %v, want %v", form, p, low, high, even, err, want)
	}
}

func TestLimitsTable(t *testing.T) {
	none := api.Exact{}
	for _, x := range []struct {
		form      int
		p         uint64
		low, high api.Exact
		even      bool
	}{
		{api.E4M3, 0x7E, num(27, 4, 0), num(29, 4, 0), true}, {api.E4M3, 0xFE, num(27, 4, 0), num(29, 4, 0), true}, {api.E4M3, 1, num(1, -10, 0), num(3, -10, 0), false}, {api.E4M3, 0x81, num(1, -10, 0), num(3, -10, 0), false},
		{api.E5M2, 0x7B, num(13, 12, 0), num(15, 12, 0), false}, {api.E5M2, 0xFB, num(13, 12, 0), num(15, 12, 0), false}, {api.E5M2, 0x3C, num(15, -4, 0), num(9, -3, 0), true},
		{api.E3M2, 0x1F, num(13, 1, 0), none, false}, {api.E3M2, 0x3F, num(13, 1, 0), none, false}, {api.E2M3, 0x1F, num(29, -2, 0), none, false}, {api.E2M1, 7, num(5, 0, 0), none, false}, {api.E2M1, 0xF, num(5, 0, 0), none, false},
		{api.E2M1, 6, num(7, -1, 0), num(5, 0, 0), true}, {api.E2M1, 1, num(1, -2, 0), num(3, -2, 0), false},
		{api.Int8, 0x7F, num(253, -7, 0), none, false}, {api.Int8, 0x80, num(255, -7, 0), none, true}, {api.Int8, 0x81, num(253, -7, 0), num(255, -7, 0), false}, {api.Int8, 1, num(1, -7, 0), num(3, -7, 0), false}, {api.Int8, 0xFF, num(1, -7, 0), num(3, -7, 0), false},
		{api.E8M0, 0, none, num(3, -128, 0), true}, {api.E8M0, 1, num(3, -128, 0), num(3, -127, 0), false}, {api.E8M0, 0x7F, num(3, -2, 0), num(3, -1, 0), false}, {api.E8M0, 0xFE, num(3, 125, 0), num(3, 126, 0), true},
		{api.Posit8, 1, none, num(1, -22, 0), false}, {api.Posit8, 0xFF, none, num(1, -22, 0), false}, {api.Posit8, 2, num(1, -22, 0), num(1, -19, 0), true}, {api.Posit8, 0x7F, num(1, 22, 0), none, false}, {api.Posit8, 0x81, num(1, 22, 0), none, false},
		{api.Posit8, 0x40, num(31, -5, 0), num(17, -4, 0), true}, {api.Posit8, 0xC0, num(31, -5, 0), num(17, -4, 0), true},
		{api.Posit16, 1, none, num(1, -54, 0), false}, {api.Posit32, 0x7FFFFFFF, num(1, 118, 0), none, false}, {api.Posit64, 1<<63 - 1, num(1, 246, 0), none, false}, {api.Posit64, math.MaxUint64, none, num(1, -246, 0), false},
		{api.Binary16, 0x7BFF, num(4093, 4, 0), num(4095, 4, 0), false}, {api.Binary16, 0x3C00, num(4095, -12, 0), num(2049, -11, 0), true}, {api.Binary32, 1, num(1, -150, 0), num(3, -150, 0), false},
		{api.Binary64, 1, num(1, -1075, 0), num(3, -1075, 0), false}, {api.Binary64, 0xFFEFFFFFFFFFFFFF, num(1<<54-3, 970, 0), num(1<<54-1, 970, 0), false},
	} {
		low, high, even, err := round.Limits(x.form, x.p)
		if !same(low, x.low) || !same(high, x.high) || even != x.even || err != api.OK {
			t.Errorf("Limits of %d, %X: %v, %v, %v, %v", x.form, x.p, low, high, even, err)
		}
	}
}

// hasPattern is whether the size is rounded, with Special, to the number of the pattern.
func hasPattern(form int, p uint64, neg bool, x api.Exact) bool {
	return rounded(form, api.Special, neg, size(x)) == p
}

// wantEdge asks for what is at a limit, and as little as can be inside and outside of it.
func wantEdge(t *testing.T, form int, p uint64, neg bool, x api.Exact, inside int, even bool) {
	t.Helper()
	if len(x.N) != 1 || x.N[0]%2 == 0 || x.Five != 0 || x.Neg {
		t.Errorf("Limits of %d, %X: %v", form, p, x)
		return
	}
	m := x.N[0]
	if !hasPattern(form, p, neg, near(m, x.Two, inside)) || hasPattern(form, p, neg, near(m, x.Two, -inside)) || hasPattern(form, p, neg, x) != even {
		t.Errorf("Limits of %d, %X: %v is none", form, p, x)
	}
}

// What is between the limits of a pattern has it, and nothing else has.
func TestLimitsOfPatterns(t *testing.T) {
	for _, form := range forms.All() {
		f := formOf(form)
		for _, neg := range signs(f) {
			for _, key := range keysOf(mostOf(f, neg)) {
				p := patternOf(f, neg, key)
				if key == 0 && f.Kind != forms.Scale {
					wantNoLimits(t, form, p, api.ErrNone)
					continue
				}
				low, high, even, err := round.Limits(form, p)
				if err != api.OK || even != (key%2 == 0) {
					t.Errorf("Limits of %d, %X: %v, %v", form, p, even, err)
				}
				if same(low, api.Exact{}) && hasPattern(form, p, neg, num(1, -5000, -5000)) {
					low = num(1, -5000, -5000)
				} else {
					wantEdge(t, form, p, neg, low, 1, even)
				}
				if same(high, api.Exact{}) && hasPattern(form, p, neg, num(1, 5000, 5000)) {
					continue
				}
				wantEdge(t, form, p, neg, high, -1, even)
				if size(low).Cmp(size(high)) >= 0 {
					t.Errorf("Limits of %d, %X: %v, %v", form, p, low, high)
				}
			}
		}
	}
}

// Round itself keeps to the limits.
func TestLimitsOfRound(t *testing.T) {
	for _, form := range forms.All() {
		f := formOf(form)
		for _, key := range keysOf(mostOf(f, false)) {
			low, high, even, err := round.Limits(form, key)
			if err != api.OK {
				continue
			}
			for _, x := range []api.Exact{low, high} {
				// A Scale has no pattern of nought, though its key 0 is even.
				if p, _ := round.Round(form, api.Special, x); len(x.N) > 0 && (p == key) != even {
					t.Errorf("%d, %v: %X, of %X", form, x, p, key)
				}
			}
		}
	}
}

// Noughts, infinities, and what is no number.
func TestLimitsOfNone(t *testing.T) {
	for form, patterns := range map[int][]uint64{
		api.Posit8: {0, 0x80}, api.Posit16: {0, 0x8000}, api.Posit32: {0, 1 << 31}, api.Posit64: {0, 1 << 63},
		api.E4M3: {0, 0x80, 0x7F, 0xFF}, api.E5M2: {0, 0x80, 0x7C, 0x7D, 0x7E, 0x7F, 0xFC, 0xFD, 0xFE, 0xFF},
		api.E3M2: {0, 0x20}, api.E2M3: {0, 0x20}, api.E2M1: {0, 8}, api.Int8: {0}, api.E8M0: {0xFF},
		api.Binary16: {0, 0x8000, 0x7C00, 0x7C01, 0x7E00, 0xFC00, 0xFFFF}, api.Binary32: {0, 1 << 31, 0x7F800000, 0x7FC00000, 0xFF800000, 0xFFFFFFFF},
		api.Binary64: {0, 1 << 63, 0x7FF0000000000000, 0x7FF0000000000001, 0x7FF8000000000000, 0xFFF0000000000000, math.MaxUint64},
	} {
		for _, p := range patterns {
			wantNoLimits(t, form, p, api.ErrNone)
		}
	}
}

func TestLimitsThatDoNotFit(t *testing.T) {
	for _, form := range forms.All() {
		f := formOf(form)
		for i := f.Width; i < 64; i++ {
			wide := uint64(1) << i
			for _, p := range []uint64{wide, wide | 1, wide | f.Top, wide | f.Inf, wide | f.NaN, math.MaxUint64} {
				wantNoLimits(t, form, p, api.ErrArg)
			}
		}
	}
}

func TestLimitsOfNoForm(t *testing.T) {
	for _, form := range noForms {
		for _, p := range []uint64{0, 1, 0x7F, 0x80, 0xFF, 0x100, 1 << 63, math.MaxUint64} {
			wantNoLimits(t, form, p, api.ErrForm)
		}
	}
}
