package trans_test

import (
	"math"
	"testing"

	"caliper/api"
	"caliper/parse"
	"caliper/print"
	"caliper/value"
)

func TestTurnTable(t *testing.T) {
	const saturate, special = api.Saturate, api.Special
	for _, x := range []struct {
		from, to, mode int
		p, want        uint64
	}{
		{api.Posit8, api.Binary64, special, 0x40, 0x3FF0000000000000}, {api.Posit8, api.Posit16, special, 0x41, 0x4100}, {api.Posit8, api.E2M1, special, 0x41, 2}, {api.Posit8, api.Int8, special, 0x41, 0x48}, {api.Posit8, api.Int8, special, 0xBF, 0xB8},
		{api.E4M3, api.E2M3, special, 0x39, 9}, {api.E4M3, api.E3M2, special, 0x39, 0xC}, {api.E4M3, api.E3M2, special, 0x3B, 0xE}, {api.E4M3, api.Posit8, special, 0xB8, 0xC0},
		{api.Int8, api.Binary32, special, 0x80, 0xC0000000}, {api.Int8, api.Posit8, saturate, 0x80, 0xB8}, {api.Int8, api.E2M1, special, 0x7F, 4},
		{api.E8M0, api.Binary32, special, 0, 0x00400000}, {api.E8M0, api.Binary32, special, 0xFE, 0x7F000000}, {api.E8M0, api.Posit64, special, 0x7F, 1 << 62},
		{api.Binary64, api.E8M0, special, 0x3FF0000000000000, 0x7F}, {api.Binary64, api.E8M0, special, 0x3FF8000000000000, 0x80}, {api.Binary64, api.E8M0, special, 0x4008000000000000, 0x80}, {api.Binary64, api.E8M0, special, 0xBFF0000000000000, 0xFF}, {api.Binary64, api.E8M0, saturate, 0xBFF0000000000000, 0xFF},
		{api.Binary64, api.Binary32, special, 0x3FB999999999999A, 0x3DCCCCCD}, {api.Binary64, api.Binary16, special, 0x3FB999999999999A, 0x2E66}, {api.Binary32, api.Binary64, special, 0x3DCCCCCD, 0x3FB99999A0000000},
		// Too large, by a little and by much.
		{api.Binary16, api.E4M3, special, 0x5F40, 0x7E}, {api.Binary16, api.E4M3, special, 0x5F41, 0x7F}, {api.Binary16, api.E4M3, saturate, 0x5F41, 0x7E}, {api.Binary16, api.E4M3, special, 0xDF41, 0x7F}, {api.Binary16, api.E4M3, saturate, 0xDF41, 0xFE},
		{api.Binary32, api.Binary16, special, 0x477FEFFF, 0x7BFF}, {api.Binary32, api.Binary16, special, 0x477FF000, 0x7C00}, {api.Binary32, api.Binary16, saturate, 0x477FF000, 0x7BFF}, {api.Binary32, api.Binary16, special, 0xC77FF000, 0xFC00}, {api.Binary32, api.Binary16, saturate, 0xC77FF000, 0xFBFF},
		{api.Binary64, api.Binary32, special, 0x47EFFFFFF0000000, 0x7F800000}, {api.Binary64, api.Binary32, special, 0x47EFFFFFEFFFFFFF, 0x7F7FFFFF}, {api.Binary64, api.Posit8, special, 0x7FEFFFFFFFFFFFFF, 0x7F}, {api.Binary64, api.Posit8, saturate, 0xFFEFFFFFFFFFFFFF, 0x81},
		{api.Binary64, api.Posit64, special, 0x7FEFFFFFFFFFFFFF, 1<<63 - 1}, {api.Binary64, api.Posit64, special, 0xFFEFFFFFFFFFFFFF, 1<<63 + 1}, {api.Posit64, api.Binary32, special, 1<<63 - 1, 0x7F800000}, {api.Posit64, api.Binary32, saturate, 1<<63 + 1, 0xFF7FFFFF}, {api.Posit64, api.Binary64, special, 1<<63 - 1, 0x4F70000000000000},
		{api.Posit8, api.E2M1, special, 0x7F, 7}, {api.Posit8, api.E2M1, saturate, 0x81, 0xF}, {api.Posit8, api.Int8, special, 0x7F, 0x7F}, {api.Posit8, api.Int8, special, 0x81, 0x80}, {api.Posit64, api.E8M0, special, 1<<63 - 1, 0xFF}, {api.Posit64, api.E8M0, saturate, 1<<63 - 1, 0xFE},
		{api.E8M0, api.E5M2, special, 0xFE, 0x7C}, {api.E8M0, api.E5M2, saturate, 0xFE, 0x7B}, {api.E8M0, api.Posit8, special, 0xFE, 0x7F},
		// Too small: posits lose nothing to 0.
		{api.Binary64, api.Posit8, special, 1, 1}, {api.Binary64, api.Posit8, special, 1<<63 + 1, 0xFF}, {api.Binary64, api.Posit64, saturate, 1, 1}, {api.Binary64, api.Posit64, saturate, 1<<63 + 1, math.MaxUint64}, {api.Posit16, api.Posit8, special, 0xFFFF, 0xFF}, {api.E8M0, api.Posit8, special, 0, 1},
		{api.Binary64, api.Binary32, special, 1, 0}, {api.Binary64, api.Binary32, saturate, 1<<63 + 1, 1 << 31}, {api.Binary64, api.E2M1, special, 1<<63 + 1, 8}, {api.Binary64, api.Int8, special, 1<<63 + 1, 0}, {api.Binary64, api.E8M0, special, 1, 0}, {api.Binary64, api.E8M0, special, 1<<63 + 1, 0xFF},
		{api.Posit64, api.Binary64, special, 1, 0x3070000000000000}, {api.Posit64, api.Binary32, special, math.MaxUint64, 1 << 31}, {api.Posit8, api.E4M3, special, 1, 0}, {api.Posit8, api.E4M3, special, 0xFF, 0x80},
		// Halfway between two.
		{api.Posit64, api.Binary64, special, 1<<62 | 0x40, 0x3FF0000000000000}, {api.Posit64, api.Binary64, special, 1<<62 | 0x41, 0x3FF0000000000001}, {api.Posit64, api.Binary64, special, 1<<62 | 0xC0, 0x3FF0000000000002}, {api.Posit64, api.Binary64, special, 1<<62 | 0xBF, 0x3FF0000000000001},
		{api.Posit64, api.Binary64, special, 3<<62 - 0x40, 0xBFF0000000000000}, {api.Posit64, api.Binary64, special, 3<<62 - 0x41, 0xBFF0000000000001},
		{api.Binary64, api.Binary32, special, 0x3690000000000000, 0}, {api.Binary64, api.Binary32, special, 0x3690000000000001, 1}, {api.Binary64, api.Binary32, special, 0xB6A8000000000000, 0x80000002},
		{api.E2M3, api.E2M1, special, 0x1A, 6}, {api.E2M3, api.E2M1, special, 0x1B, 7}, {api.E2M3, api.E2M1, special, 0xA, 2}, {api.E2M3, api.E2M1, special, 0xE, 4}, {api.E2M3, api.E2M1, special, 0x2E, 0xC}, {api.E2M3, api.E2M1, special, 2, 0}, {api.E2M3, api.E2M1, special, 6, 2},
		{api.Binary16, api.Posit8, special, 0x3C40, 0x40}, {api.Binary16, api.Posit8, special, 0x3CC0, 0x42}, {api.Binary16, api.Posit8, special, 0xBCC0, 0xBE}, {api.Binary16, api.Int8, special, 0x2000, 0}, {api.Binary16, api.Int8, special, 0xA600, 0xFE},
	} {
		wantTurn(t, x.from, x.to, x.mode, x.p, x.want)
	}
}

// Patterns of each form turned to each form, in both modes.
func TestTurn(t *testing.T) {
	eachPair(t, func(t *testing.T, from, to row) {
		for _, p := range from.patterns() {
			for _, mode := range modes {
				wantTurn(t, from.form, to.form, mode, p, to.wanted(mode, from.meant(p)))
			}
		}
	})
}

// What is turned is the pattern of the full text, rounded in the other form. (A text has no sign of a
// NaN, nor an infinity in every form.)
func TestTurnIsAsTexts(t *testing.T) {
	eachPair(t, func(t *testing.T, from, to row) {
		for i, p := range from.patterns() {
			if i%3 != 0 || !isNumber(from.meant(p)) {
				continue
			}
			s, _ := print.PrintFull(from.form, p)
			for _, mode := range modes {
				want, _, err := parse.Parse(to.form, mode, s)
				if err != api.OK {
					t.Errorf("%d, %X: %s: %v", from.form, p, s, err)
				}
				wantTurn(t, from.form, to.form, mode, p, want)
			}
		}
	})
}

// The boundary behind a key is halfway: the even key of the two has it; what is a little to either side
// has the nearer one. All of them are turned from Binary64.
func TestTurnOfHalves(t *testing.T) {
	for _, to := range rows {
		if to.form == api.Binary64 {
			continue
		}
		for _, p := range to.patterns() {
			neg, key, err := value.Key(to.form, p)
			if m, e, _ := value.Between(to.form, key); err == api.OK && m < 1<<53 {
				half := math.Float64bits(math.Ldexp(float64(m), e))
				wantAbout(t, to, neg, key, half)
			}
		}
	}
}

// wantAbout asks for the keys about a boundary.
func wantAbout(t *testing.T, to row, neg bool, key, half uint64) {
	t.Helper()
	sign := uint64(index(neg)) << 63
	for _, mode := range modes {
		low, high := to.pattern(neg, key), to.tooLarge(mode, neg)
		if key < to.most(neg) {
			high = to.pattern(neg, key+1)
		}
		if key == 0 && to.kind == tapered {
			low = high
		}
		even := low
		if key%2 == 1 {
			even = high
		}
		wantTurn(t, api.Binary64, to.form, mode, sign|half-1, low)
		wantTurn(t, api.Binary64, to.form, mode, sign|half, even)
		wantTurn(t, api.Binary64, to.form, mode, sign|half+1, high)
	}
}

// The machine turns, too.
func TestTurnAsMachine(t *testing.T) {
	for _, p := range rowOf(api.Binary64).patterns() {
		if x := math.Float64frombits(p); !math.IsNaN(x) {
			wantTurn(t, api.Binary64, api.Binary32, api.Special, p, uint64(math.Float32bits(float32(x))))
		}
	}
	for _, p := range rowOf(api.Binary32).patterns() {
		if x := float64(math.Float32frombits(uint32(p))); !math.IsNaN(x) {
			wantTurn(t, api.Binary32, api.Binary64, api.Special, p, math.Float64bits(x))
		}
	}
}

// Turned to its own form a pattern stays; all that are no numbers become one.
func TestTurnToItself(t *testing.T) {
	for _, r := range rows {
		for _, p := range r.patterns() {
			switch r.meant(p).Class {
			case api.NaN:
				wantBoth(t, r.form, r.form, p, r.nan)
			case api.Inf:
				wantTurn(t, r.form, r.form, api.Special, p, p)
				wantTurn(t, r.form, r.form, api.Saturate, p, p-1)
			default:
				wantBoth(t, r.form, r.form, p, p)
			}
		}
	}
}
