package trans_test

import (
	"testing"

	"caliper/api"
	"caliper/trans"
)

func TestJustTable(t *testing.T) {
	for _, x := range []struct {
		from, to int
		p        uint64
		want     bool
	}{
		{api.E4M3, api.Binary16, 0x81, true}, {api.E4M3, api.Binary16, 0x7E, true}, {api.Binary16, api.E4M3, 0x3C00, true}, {api.Binary16, api.E4M3, 0x3C01, false}, {api.Binary16, api.E4M3, 0x3C80, true}, {api.Binary16, api.E4M3, 0x3C40, false},
		{api.Posit8, api.Posit16, 0x41, true}, {api.Posit16, api.Posit8, 0x4100, true}, {api.Posit16, api.Posit8, 0x4180, false}, {api.Posit16, api.Posit8, 1, false}, {api.Posit16, api.Posit8, 0x7FFF, false},
		// Noughts.
		{api.E4M3, api.Posit8, 0x80, false}, {api.E4M3, api.Posit8, 0, true}, {api.E4M3, api.Int8, 0x80, false}, {api.E4M3, api.Int8, 0, true}, {api.E4M3, api.E2M1, 0x80, true}, {api.Posit8, api.Binary64, 0, true}, {api.Posit8, api.E8M0, 0, false}, {api.E4M3, api.E8M0, 0x80, false},
		// What is no number, and infinities.
		{api.E5M2, api.Binary16, 0x7C, false}, {api.E5M2, api.E5M2, 0x7C, false}, {api.E5M2, api.E5M2, 0xFC, false}, {api.E5M2, api.E5M2, 0x7E, false}, {api.Posit8, api.Posit8, 0x80, false}, {api.E8M0, api.E8M0, 0xFF, false}, {api.Binary64, api.E2M1, 0x7FF8000000000000, false},
		// The greatest and the least, and what is beyond.
		{api.Binary16, api.E5M2, 0x7B00, true}, {api.Binary16, api.E5M2, 0x7B01, false}, {api.Binary16, api.E5M2, 0x7BFF, false}, {api.Binary16, api.Binary32, 1, true}, {api.Binary32, api.Binary16, 0x33800000, true}, {api.Binary32, api.Binary16, 0x33000000, false},
		{api.Binary16, api.Int8, 0xC000, true}, {api.Binary16, api.Int8, 0x4000, false}, {api.Int8, api.Posit8, 0x80, true}, {api.Int8, api.Posit8, 0x7F, false}, {api.Int8, api.E4M3, 0x0F, true}, {api.Int8, api.E4M3, 0x11, false},
		{api.E8M0, api.Binary32, 0, true}, {api.E8M0, api.Binary32, 0xFE, true}, {api.E8M0, api.Binary16, 0xFE, false}, {api.Binary32, api.E8M0, 0x00400000, true}, {api.Binary32, api.E8M0, 0x00200000, false}, {api.Binary32, api.E8M0, 0x3FC00000, false}, {api.Binary32, api.E8M0, 0xBF800000, false},
		{api.Posit64, api.Binary64, 1, true}, {api.Posit64, api.Binary64, 1<<63 - 1, true}, {api.Posit64, api.Binary64, 1<<62 | 1, false}, {api.Posit64, api.Binary64, 1<<62 | 0x80, true}, {api.Posit64, api.Binary64, 1<<62 | 0x40, false},
		{api.Binary64, api.Posit64, 0x3FF0000000000001, true}, {api.Binary64, api.Posit64, 1, false}, {api.Binary64, api.Posit64, 0x4F70000000000000, true}, {api.Binary64, api.Posit64, 0x4F80000000000000, false},
		{api.Binary64, api.Binary32, 0x3FB999999999999A, false}, {api.Binary64, api.Binary32, 0x3FB99999A0000000, true}, {api.E2M1, api.E3M2, 0xF, true}, {api.E2M1, api.E2M3, 0xF, true},
	} {
		wantJust(t, x.from, x.to, x.p, x.want)
	}
}

// Patterns of each form, by whether the other form has what they mean.
func TestJust(t *testing.T) {
	eachPair(t, func(t *testing.T, from, to row) {
		for _, p := range from.patterns() {
			wantJust(t, from.form, to.form, p, to.has(from.meant(p)))
		}
	})
}

// What is turned justly means the same there, and comes back, as it was, by either mode.
func TestJustComesBack(t *testing.T) {
	eachPair(t, func(t *testing.T, from, to row) {
		for _, p := range from.patterns() {
			if is, _ := trans.Just(from.form, to.form, p); !is {
				continue
			}
			q, _ := trans.Turn(from.form, to.form, api.Special, p)
			if was, is := from.meant(p), to.meant(q); was != is {
				t.Errorf("%d to %d, %X: %+v, %+v", from.form, to.form, p, was, is)
			}
			wantTurn(t, from.form, to.form, api.Saturate, p, q)
			wantBoth(t, to.form, from.form, q, p)
			wantJust(t, to.form, from.form, q, true)
		}
	})
}

// A wider form of a kind has all numbers of those whose mantissa and exponent it has room for.
func TestJustToWider(t *testing.T) {
	for _, x := range [][2]int{
		{api.Posit8, api.Posit16}, {api.Posit16, api.Posit32}, {api.Posit32, api.Posit64}, {api.Posit32, api.Binary64},
		{api.Binary16, api.Binary32}, {api.Binary32, api.Binary64}, {api.E4M3, api.Binary16}, {api.E5M2, api.Binary16}, {api.E2M1, api.E2M3}, {api.E2M1, api.E3M2}, {api.E3M2, api.E4M3}, {api.E2M3, api.E4M3},
		{api.Int8, api.Binary16}, {api.E8M0, api.Binary32},
	} {
		from := rowOf(x[0])
		for _, p := range from.patterns() {
			wantJust(t, x[0], x[1], p, isNumber(from.meant(p)))
		}
	}
}
