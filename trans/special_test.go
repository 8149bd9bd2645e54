package trans_test

import (
	"math"
	"testing"

	"caliper/api"
)

// Noughts keep their sign where the other form has one; a Scale has no nought.
func TestTurnOfNoughts(t *testing.T) {
	want := map[int][2]uint64{
		api.Posit8: {0, 0}, api.Posit16: {0, 0}, api.Posit32: {0, 0}, api.Posit64: {0, 0},
		api.E4M3: {0, 0x80}, api.E5M2: {0, 0x80}, api.E3M2: {0, 0x20}, api.E2M3: {0, 0x20}, api.E2M1: {0, 8}, api.Int8: {0, 0}, api.E8M0: {0xFF, 0xFF},
		api.Binary16: {0, 0x8000}, api.Binary32: {0, 0x80000000}, api.Binary64: {0, 1 << 63},
	}
	for _, from := range rows {
		for to, patterns := range want {
			if from.kind == signed {
				wantBoth(t, from.form, to, from.highest(), patterns[1])
			}
			if from.kind != scale {
				wantBoth(t, from.form, to, 0, patterns[0])
			}
		}
	}
}

// nans are patterns of what is no number.
var nans = map[int][]uint64{
	api.Posit8: {0x80}, api.Posit16: {0x8000}, api.Posit32: {0x80000000}, api.Posit64: {1 << 63},
	api.E4M3: {0x7F, 0xFF}, api.E5M2: {0x7D, 0x7E, 0x7F, 0xFD, 0xFE, 0xFF}, api.E8M0: {0xFF},
	api.Binary16: {0x7C01, 0x7E00, 0x7FFF, 0xFC01, 0xFE00, 0xFFFF},
	api.Binary32: {0x7F800001, 0x7FC00000, 0x7FFFFFFF, 0xFF800001, 0xFFC00000, math.MaxUint32},
	api.Binary64: {0x7FF0000000000001, 0x7FF8000000000000, 1<<63 - 1, 0xFFF0000000000001, 0xFFF8000000000000, math.MaxUint64},
}

// What is no number is the one of the other form, if that has one, else 0, whatever its sign.
func TestTurnOfNaN(t *testing.T) {
	want := map[int]uint64{
		api.Posit8: 0x80, api.Posit16: 0x8000, api.Posit32: 0x80000000, api.Posit64: 1 << 63,
		api.E4M3: 0x7F, api.E5M2: 0x7E, api.E3M2: 0, api.E2M3: 0, api.E2M1: 0, api.Int8: 0, api.E8M0: 0xFF,
		api.Binary16: 0x7E00, api.Binary32: 0x7FC00000, api.Binary64: 0x7FF8000000000000,
	}
	for from, patterns := range nans {
		for _, p := range patterns {
			for to, one := range want {
				wantBoth(t, from, to, p, one)
				wantJust(t, from, to, p, false)
			}
		}
	}
}

// infinities are those of each form that has them, above nought and below.
var infinities = map[int][2]uint64{
	api.E5M2: {0x7C, 0xFC}, api.Binary16: {0x7C00, 0xFC00}, api.Binary32: {0x7F800000, 0xFF800000}, api.Binary64: {0x7FF0000000000000, 0xFFF0000000000000},
}

// Infinities are NaR of posits, NaN of a Scale, if they are below nought, else as what is too large.
func TestTurnOfInfinities(t *testing.T) {
	// With Saturate, with Special, and both below nought.
	want := map[int][4]uint64{
		api.Posit8: {0x80, 0x80, 0x80, 0x80}, api.Posit16: {0x8000, 0x8000, 0x8000, 0x8000}, api.Posit32: {1 << 31, 1 << 31, 1 << 31, 1 << 31}, api.Posit64: {1 << 63, 1 << 63, 1 << 63, 1 << 63},
		api.E4M3: {0x7E, 0x7F, 0xFE, 0x7F}, api.E5M2: {0x7B, 0x7C, 0xFB, 0xFC},
		api.E3M2: {0x1F, 0x1F, 0x3F, 0x3F}, api.E2M3: {0x1F, 0x1F, 0x3F, 0x3F}, api.E2M1: {7, 7, 0xF, 0xF},
		api.Int8: {0x7F, 0x7F, 0x80, 0x80}, api.E8M0: {0xFE, 0xFF, 0xFF, 0xFF},
		api.Binary16: {0x7BFF, 0x7C00, 0xFBFF, 0xFC00}, api.Binary32: {0x7F7FFFFF, 0x7F800000, 0xFF7FFFFF, 0xFF800000},
		api.Binary64: {0x7FEFFFFFFFFFFFFF, 0x7FF0000000000000, 0xFFEFFFFFFFFFFFFF, 0xFFF0000000000000},
	}
	for from, infs := range infinities {
		for to, patterns := range want {
			for i, p := range infs {
				wantTurn(t, from, to, api.Saturate, p, patterns[2*i])
				wantTurn(t, from, to, api.Special, p, patterns[2*i+1])
				wantJust(t, from, to, p, false)
			}
		}
	}
}
