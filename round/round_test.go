package round_test

import (
	"math/big"
	"slices"
	"testing"

	"caliper/api"
	"caliper/exact"
	"caliper/forms"
	"caliper/round"
	"caliper/value"
)

func wantRound(t *testing.T, form, mode int, x api.Exact, want uint64) {
	t.Helper()
	if p, err := round.Round(form, mode, x); p != want || err != api.OK {
		t.Errorf("Round of %d, %d, %v: %X, %v, want %X", form, mode, x, p, err, want)
	}
}

func wantNoRound(t *testing.T, form, mode int, x api.Exact, want api.Errno) {
	t.Helper()
	if p, err := round.Round(form, mode, x); p != 0 || err != want {
		t.Errorf("Round of %d, %d, %v: %X, %v, want %v", form, mode, x, p, err, want)
	}
}

// wantRounded asks for all that may be made of a number in a form, of which the arithmetic of its kind tells.
func wantRounded(t *testing.T, form int, x api.Exact) {
	t.Helper()
	f, r := formOf(form), size(x)
	for _, neg := range []bool{false, true} {
		key, over := nearest(f, neg, r)
		x.Neg = neg
		for _, mode := range modes {
			wantRound(t, form, mode, x, chosen(form, mode, neg, r.Sign() == 0, key, over))
		}
		if !slices.Contains(signs(f), neg) {
			continue
		}
		// Neg of the number does not matter here: what is asked for is the sign of the keys.
		for _, x.Neg = range []bool{false, true} {
			wantNearest(t, form, neg, x, key, over)
		}
	}
}

func TestRoundTable(t *testing.T) {
	const saturate, special = api.Saturate, api.Special
	for _, x := range []struct {
		form, mode int
		x          api.Exact
		want       uint64
	}{
		{api.E4M3, special, num(464, 0, 0), 0x7E}, {api.E4M3, special, near(29, 4, 1), 0x7F}, {api.E4M3, special, below(near(29, 4, 1)), 0x7F},
		{api.E4M3, saturate, near(29, 4, 1), 0x7E}, {api.E4M3, saturate, below(near(29, 4, 1)), 0xFE}, {api.E4M3, special, below(num(464, 0, 0)), 0xFE},
		{api.E4M3, special, num(1, -10, 0), 0}, {api.E4M3, special, below(num(1, -10, 0)), 0x80}, {api.E4M3, special, near(1, -10, 1), 1}, {api.E4M3, special, num(3, -10, 0), 2},
		{api.E5M2, special, num(61440, 0, 0), 0x7C}, {api.E5M2, special, near(61440, 0, -1), 0x7B}, {api.E5M2, special, below(num(61440, 0, 0)), 0xFC}, {api.E5M2, saturate, num(61440, 0, 0), 0x7B},
		{api.E5M2, saturate, below(num(61440, 0, 0)), 0xFB}, {api.E5M2, special, num(1, 5000, 5000), 0x7C},
		{api.E3M2, special, num(1000, 0, 0), 0x1F}, {api.E3M2, special, below(num(1000, 0, 0)), 0x3F}, {api.E3M2, saturate, num(30, 0, 0), 0x1F},
		{api.E2M3, special, num(1, 5000, 5000), 0x1F}, {api.E2M3, saturate, below(num(8, 0, 0)), 0x3F},
		{api.E2M1, special, num(5, 0, 0), 6}, {api.E2M1, special, near(5, 0, 1), 7}, {api.E2M1, special, num(7, 0, 0), 7}, {api.E2M1, special, below(num(8, 0, 0)), 0xF}, {api.E2M1, special, num(1, -2, 0), 0},
		{api.Int8, special, num(255, -7, 0), 0x7F}, {api.Int8, special, below(num(255, -7, 0)), 0x80}, {api.Int8, special, below(near(255, -7, -1)), 0x81}, {api.Int8, special, below(num(257, -7, 0)), 0x80},
		{api.Int8, saturate, below(num(100, 0, 0)), 0x80}, {api.Int8, special, num(100, 0, 0), 0x7F}, {api.Int8, special, below(num(1, -7, 0)), 0}, {api.Int8, special, below(near(1, -7, 1)), 0xFF}, {api.Int8, special, num(3, -7, 0), 2},
		{api.E8M0, special, num(3, 126, 0), 0xFE}, {api.E8M0, special, near(3, 126, 1), 0xFF}, {api.E8M0, saturate, near(3, 126, 1), 0xFE}, {api.E8M0, special, num(3, -128, 0), 0}, {api.E8M0, special, near(3, -128, 1), 1},
		{api.E8M0, special, num(3, -127, 0), 2}, {api.E8M0, special, near(3, -127, -1), 1}, {api.E8M0, special, num(1, -5000, -5000), 0}, {api.E8M0, saturate, num(1, -5000, -5000), 0},
		{api.Posit8, special, num(11, -1, -1), 0x41}, {api.Posit8, special, num(1, -28, 0), 1}, {api.Posit8, special, near(1, -28, -1), 1}, {api.Posit8, special, below(num(1, -5000, -5000)), 0xFF},
		{api.Posit8, special, num(1, 22, 0), 0x7E}, {api.Posit8, special, near(1, 22, 1), 0x7F}, {api.Posit8, special, num(1, 28, 0), 0x7F}, {api.Posit8, saturate, num(1, 5000, 5000), 0x7F}, {api.Posit8, special, below(num(1, 5000, 5000)), 0x81},
		{api.Posit16, special, num(1, -400, 0), 1}, {api.Posit32, special, below(num(1, 400, 0)), 0x80000001}, {api.Posit64, special, num(1, 5000, 5000), 1<<63 - 1}, {api.Posit64, special, below(num(1, -5000, 0)), 1<<64 - 1},
		{api.Posit64, special, num(1<<60|1, -60, 0), 1 << 62}, {api.Posit64, special, near(1<<60|1, -60, 1), 1<<62 | 1}, {api.Posit64, special, num(1<<60|3, -60, 0), 1<<62 | 2},
		{api.Binary16, special, num(65520, 0, 0), 0x7C00}, {api.Binary16, special, near(65520, 0, -1), 0x7BFF}, {api.Binary16, saturate, below(num(65520, 0, 0)), 0xFBFF},
		{api.Binary32, special, num(1<<24+1, 0, 0), 0x4B800000}, {api.Binary32, special, num(1<<24+3, 0, 0), 0x4B800002}, {api.Binary32, special, num(1, -150, 0), 0}, {api.Binary32, special, near(1, -150, 1), 1},
		{api.Binary64, special, num(1, -1, -1), 0x3FB999999999999A}, {api.Binary64, special, num(1, -1075, 0), 0}, {api.Binary64, special, below(num(1, -1075, 0)), 1 << 63}, {api.Binary64, special, near(1, -1075, 1), 1},
		{api.Binary64, special, num(1<<54-1, 970, 0), 0x7FF0000000000000}, {api.Binary64, special, near(1<<54-1, 970, -1), 0x7FEFFFFFFFFFFFFF}, {api.Binary64, saturate, num(1, 5000, 5000), 0x7FEFFFFFFFFFFFFF},
	} {
		wantRound(t, x.form, x.mode, x.x, x.want)
	}
}

// Noughts have the sign that they have in Signed forms alone, whatever their powers are.
func TestRoundOfNoughts(t *testing.T) {
	below0 := map[int]uint64{api.E4M3: 0x80, api.E5M2: 0x80, api.E3M2: 0x20, api.E2M3: 0x20, api.E2M1: 8, api.Binary16: 0x8000, api.Binary32: 1 << 31, api.Binary64: 1 << 63, api.E8M0: 0xFF}
	above0 := map[int]uint64{api.E8M0: 0xFF}
	for _, form := range forms.All() {
		for _, mode := range modes {
			for _, x := range []api.Exact{{}, {N: api.Nat{}}, num(0, 5000, -5000), num(0, -5000, 5000), num(0, 5000, 5000)} {
				wantRound(t, form, mode, x, above0[form])
				wantRound(t, form, mode, below(x), below0[form])
			}
		}
	}
}

// A Scale has no number that is below nought, be it of what size it may.
func TestRoundOfScaleBelow(t *testing.T) {
	for _, mode := range modes {
		for _, x := range append(spread(), num(1, 0, 0), num(3, 126, 0), num(1, 300, 0), num(1, -300, 0)) {
			wantRound(t, api.E8M0, mode, below(x), 0xFF)
		}
	}
}

// What is too large, by a little and by as much as may be.
func TestRoundOfTooLarge(t *testing.T) {
	for _, form := range forms.All() {
		f, want := formOf(form), patternWhenLarge[form]
		m, e, _ := value.Between(form, mostOf(f, true))
		for _, x := range []api.Exact{near(m, e, 1), num(m, e+1, 0), num(1, 1100, 0), num(1, 5000, 5000), long(full(128), 5000, 5000), num(3, -1, 2000)} {
			wantRound(t, form, api.Saturate, x, want[0])
			wantRound(t, form, api.Special, x, want[1])
			wantRound(t, form, api.Saturate, below(x), want[2])
			wantRound(t, form, api.Special, below(x), want[3])
		}
	}
}

// At all keys and boundaries, and as little as can be to each side of them.
func TestRoundAboutKeys(t *testing.T) {
	for _, form := range forms.All() {
		for _, key := range keysOf(mostOf(formOf(form), true)) {
			for _, x := range about(form, key) {
				wantRounded(t, form, x)
			}
		}
	}
}

// The same numbers as digits by a power of ten.
func TestRoundOfDecimals(t *testing.T) {
	for _, form := range forms.All() {
		for i, key := range keysOf(mostOf(formOf(form), true)) {
			if i%5 != 0 {
				continue
			}
			for _, x := range about(form, key) {
				x = asDecimal(x)
				wantRound(t, form, api.Special, x, rounded(form, api.Special, false, size(x)))
			}
		}
	}
}

func TestRoundOfSpread(t *testing.T) {
	for _, form := range forms.All() {
		for _, x := range spread() {
			wantRounded(t, form, x)
		}
	}
}

// The machine rounds, too.
func TestRoundOfFloats(t *testing.T) {
	list := spread()
	for _, form := range []int{api.Binary32, api.Binary64} {
		for _, key := range keysOf(mostOf(formOf(form), true)) {
			list = append(list, about(form, key)...)
		}
	}
	for _, x := range list {
		r := size(x)
		single, _ := r.Float32()
		double, _ := r.Float64()
		wantRound(t, api.Binary32, api.Special, x, bits32(single))
		wantRound(t, api.Binary64, api.Special, x, bits64(double))
	}
}

// Texts of old renown, as digits by a power of ten.
func TestRoundOfHardDecimals(t *testing.T) {
	for _, x := range []struct {
		digits string
		k      int
	}{
		{"9007199254740993", 0}, {"9007199254740995", 0}, {"90071992547409930000000000000000000000000001", -28}, {"17976931348623157", 292}, {"17976931348623159", 292}, {"179769313486231580793", 288},
		{"22250738585072011", -324}, {"22250738585072014", -324}, {"2225073858507201136057409796709131975934819546351645648", -362}, {"49406564584124654", -340}, {"24703282292062327", -340}, {"24703282292062328", -340},
		{"247032822920623272088284396434110686182", -362}, {"1", 23}, {"8442911973260991817129021309834", -31}, {"6929495644600919", 15}, {"3518437208883201171875", -21}, {"1448997445238699", 0}, {"5", -324}, {"2", -324}, {"1", 309},
	} {
		n, _ := new(big.Int).SetString(x.digits, 10)
		wantRound(t, api.Binary64, api.Special, long(fromBig(n), x.k, x.k), parse64(t, x.digits, x.k))
		wantRound(t, api.Binary32, api.Special, long(fromBig(n), x.k, x.k), parse32(t, x.digits, x.k))
	}
}

// What a form has is that pattern, however it is written.
func TestRoundOfOwnNumbers(t *testing.T) {
	for _, form := range forms.All() {
		f := formOf(form)
		for _, neg := range signs(f) {
			for _, key := range keysOf(mostOf(f, neg)) {
				p := patternOf(f, neg, key)
				v, _ := value.Decode(form, p)
				x, ok := exact.Of(v)
				if !ok {
					t.Fatalf("%d, %X: %+v is no number", form, p, v)
				}
				for _, mode := range modes {
					wantRound(t, form, mode, x, p)
					wantRound(t, form, mode, asDecimal(x), p)
				}
			}
		}
	}
}

// A greater number has no lesser one.
func TestRoundRises(t *testing.T) {
	for _, form := range forms.All() {
		last := uint64(0)
		for _, key := range keysOf(mostOf(formOf(form), false)) {
			for _, x := range about(form, key) {
				p, err := round.Round(form, api.Saturate, x)
				if key == 0 && len(x.N) == 0 {
					continue
				}
				if p < last || err != api.OK {
					t.Errorf("%d, %v: %X, %v behind %X", form, x, p, err, last)
				}
				last = p
			}
		}
	}
}

// That there is no such form is told first.
func TestRoundOfNoForm(t *testing.T) {
	for _, form := range noForms {
		for _, mode := range append(noModes, modes...) {
			for _, x := range append(wrong(), num(1, 0, 0), api.Exact{}) {
				wantNoRound(t, form, mode, x, api.ErrForm)
			}
		}
	}
}

func TestRoundOfNoMode(t *testing.T) {
	for _, form := range forms.All() {
		for _, mode := range noModes {
			for _, x := range append(wrong(), num(1, 0, 0), below(num(1, 0, 0)), num(1, 5000, 0), api.Exact{}, api.Exact{Neg: true}) {
				wantNoRound(t, form, mode, x, api.ErrArg)
			}
		}
	}
}

func TestRoundOfWrongNumbers(t *testing.T) {
	for _, form := range forms.All() {
		for _, mode := range modes {
			for _, x := range wrong() {
				wantNoRound(t, form, mode, x, api.ErrArg)
				wantNoRound(t, form, mode, below(x), api.ErrArg)
			}
		}
	}
}
