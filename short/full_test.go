package short_test

import (
	"math"
	"strconv"
	"testing"

	"caliper/api"
	"caliper/forms"
	"caliper/short"
)

func TestFullTable(t *testing.T) {
	for _, x := range []struct {
		form   int
		p      uint64
		neg    bool
		digits string
		k      int
	}{
		{api.Posit8, 0x41, false, "1125", -3}, {api.Posit8, 0xBF, true, "1125", -3}, {api.Posit8, 0x40, false, "1", 0}, {api.Posit8, 1, false, "59604644775390625", -24}, {api.Posit8, 0x7F, false, "16777216", 0}, {api.Posit8, 0x81, true, "16777216", 0},
		{api.Posit16, 0x7FFF, false, "72057594037927936", 0}, {api.Posit32, 0x7FFFFFFF, false, "1329227995784915872903807060280344576", 0}, {api.Posit64, 1<<63 - 1, false, "452312848583266388373324160190187140051835877600158453279131187530910662656", 0},
		{api.E4M3, 0x7E, false, "448", 0}, {api.E4M3, 0x52, false, "1", 1}, {api.E4M3, 0xD2, true, "1", 1}, {api.E4M3, 0x62, false, "4", 1}, {api.E4M3, 1, false, "1953125", -9}, {api.E5M2, 0x7B, false, "57344", 0}, {api.E5M2, 0x59, false, "16", 1}, {api.E3M2, 0x19, false, "1", 1}, {api.E3M2, 0x1F, false, "28", 0},
		{api.E2M3, 0x1F, false, "75", -1}, {api.E2M1, 1, false, "5", -1}, {api.E2M1, 0xF, true, "6", 0}, {api.Int8, 0x80, true, "2", 0}, {api.Int8, 0xFF, true, "15625", -6}, {api.Int8, 0x7F, false, "1984375", -6},
		{api.E8M0, 0, false, "58774717541114375398436826861112283890933277838604376075437585313920862972736358642578125", -127}, {api.E8M0, 0xFE, false, "170141183460469231731687303715884105728", 0}, {api.E8M0, 0x7F, false, "1", 0},
		{api.Binary16, 0x7BFF, false, "65504", 0}, {api.Binary16, 1, false, "59604644775390625", -24}, {api.Binary16, 0x63D0, false, "1", 3}, {api.Binary16, 0x70E2, false, "1", 4}, {api.Binary32, 0x3DCCCCCD, false, "100000001490116119384765625", -27}, {api.Binary32, 0x501502F9, false, "1", 10},
		{api.Binary64, 0x3FB999999999999A, false, "1000000000000000055511151231257827021181583404541015625", -55}, {api.Binary64, 0x4480F0CF064DD592, false, "1", 22}, {api.Binary64, 0x44B52D02C7E14AF6, false, "99999999999999991611392", 0},
	} {
		wantDigits(t, "Full", x.form, x.p, x.neg, x.digits, x.k)
	}
}

// Just what the pattern means, in digits without noughts at their end.
func TestFullOfPatterns(t *testing.T) {
	for _, form := range forms.All() {
		t.Run(strconv.Itoa(form), func(t *testing.T) {
			t.Parallel()
			eachNumber(form, func(n number) { wantDigits(t, "Full", form, n.p, n.neg, n.digits, n.k) })
		})
	}
}

func TestFullThereAndBack(t *testing.T) {
	for _, form := range forms.All() {
		t.Run(strconv.Itoa(form), func(t *testing.T) {
			t.Parallel()
			eachNumber(form, func(n number) {
				d, _ := short.Full(form, n.p)
				wantBack(t, n, d)
			})
		})
	}
}

// The longest digits that there are.
func TestFullOfLongest(t *testing.T) {
	d, err := short.Full(api.Binary64, 1<<52-1)
	if n := len(toBig(d.D).String()); n != 767 || d.K != -1074 || err != api.OK {
		t.Error(n, d.K, err)
	}
	d, err = short.Full(api.Binary64, 0x7FEFFFFFFFFFFFFF)
	if n := len(toBig(d.D).String()); n != 309 || d.K != 0 || err != api.OK {
		t.Error(n, d.K, err)
	}
}

// Noughts, infinities, and what is no number.
func TestOfNone(t *testing.T) {
	for form, patterns := range map[int][]uint64{
		api.Posit8: {0, 0x80}, api.Posit16: {0, 0x8000}, api.Posit32: {0, 1 << 31}, api.Posit64: {0, 1 << 63},
		api.E4M3: {0, 0x80, 0x7F, 0xFF}, api.E5M2: {0, 0x80, 0x7C, 0x7D, 0x7E, 0x7F, 0xFC, 0xFD, 0xFE, 0xFF},
		api.E3M2: {0, 0x20}, api.E2M3: {0, 0x20}, api.E2M1: {0, 8}, api.Int8: {0}, api.E8M0: {0xFF},
		api.Binary16: {0, 0x8000, 0x7C00, 0x7C01, 0x7E00, 0xFC00, 0xFFFF}, api.Binary32: {0, 1 << 31, 0x7F800000, 0x7FC00000, 0xFF800000, 0xFFFFFFFF},
		api.Binary64: {0, 1 << 63, 0x7FF0000000000000, 0x7FF0000000000001, 0x7FF8000000000000, 0xFFF0000000000000, math.MaxUint64},
	} {
		for _, p := range patterns {
			wantNone(t, form, p, api.ErrNone)
		}
	}
}

func TestThatDoNotFit(t *testing.T) {
	for _, form := range forms.All() {
		f := formOf(form)
		for i := f.Width; i < 64; i++ {
			wide := uint64(1) << i
			for _, p := range []uint64{wide, wide | 1, wide | f.Top, wide | f.Inf, wide | f.NaN, math.MaxUint64} {
				wantNone(t, form, p, api.ErrArg)
			}
		}
	}
}

func TestOfNoForm(t *testing.T) {
	for _, form := range noForms {
		for _, p := range []uint64{0, 1, 0x41, 0x7F, 0x80, 0xFF, 0x100, 1 << 63, math.MaxUint64} {
			wantNone(t, form, p, api.ErrForm)
		}
	}
}
