package parse_test

import (
	"math"
	"strconv"
	"testing"

	"caliper/api"
	"caliper/forms"
	"caliper/value"
)

func TestTable(t *testing.T) {
	for _, x := range []struct {
		form              int
		s                 string
		saturate, special uint64
	}{
		{api.E4M3, "464", 0x7E, 0x7E}, {api.E4M3, "464.0001", 0x7E, 0x7F}, {api.E4M3, "-464.0001", 0xFE, 0x7F}, {api.E4M3, "-448", 0xFE, 0xFE}, {api.E4M3, "1.0625", 0x38, 0x38}, {api.E4M3, "1.1875", 0x3A, 0x3A}, {api.E4M3, "1.06250", 0x38, 0x38},
		{api.Posit8, "1e-99", 1, 1}, {api.Posit8, "-1e-99", 0xFF, 0xFF}, {api.Posit8, "1e99", 0x7F, 0x7F}, {api.Posit8, "3", 0x4C, 0x4C}, {api.Posit8, "-3", 0xB4, 0xB4}, {api.Posit64, "1", 1 << 62, 1 << 62},
		{api.E5M2, "61440", 0x7B, 0x7C}, {api.E5M2, "61439.99", 0x7B, 0x7B}, {api.E5M2, "-61440", 0xFB, 0xFC}, {api.E3M2, "-30", 0x3F, 0x3F}, {api.E2M3, "7.49", 0x1E | 1, 0x1F}, {api.E2M1, "-5", 0xE, 0xE}, {api.E2M1, "-5.01", 0xF, 0xF},
		{api.Int8, "-1.9921875", 0x80, 0x80}, {api.Int8, "-1.9921874", 0x81, 0x81}, {api.Int8, "-0.0078125", 0, 0}, {api.Int8, "-0.0078126", 0xFF, 0xFF}, {api.Int8, "1.999", 0x7F, 0x7F}, {api.Int8, "-1e5", 0x80, 0x80},
		{api.E8M0, "3", 128, 128}, {api.E8M0, "6", 130, 130}, {api.E8M0, "-3", 0xFF, 0xFF}, {api.E8M0, "-1e-2000", 0xFF, 0xFF}, {api.E8M0, "-1e2000", 0xFF, 0xFF}, {api.E8M0, "1e2000", 0xFE, 0xFF}, {api.E8M0, "1e-2000", 0, 0},
		{api.Binary16, "-65520", 0xFBFF, 0xFC00}, {api.Binary16, "65519.999999", 0x7BFF, 0x7BFF}, {api.Binary32, "16777217", 0x4B800000, 0x4B800000}, {api.Binary32, "16777219", 0x4B800002, 0x4B800002}, {api.Binary64, "-5e-324", 1<<63 + 1, 1<<63 + 1},
	} {
		want(t, x.form, api.Saturate, x.s, x.saturate)
		want(t, x.form, api.Special, x.s, x.special)
	}
}

func TestNoughts(t *testing.T) {
	for form, row := range noughts {
		for _, s := range []string{"0", "00", "0.", ".0", "000.000", "0e0", "0E-5", ".0e+7", "0e1000", "0e-1001", "0e99999999999999999999", "0.0e-99999999999999999999", zeros(5000) + "." + zeros(5000) + "e" + nines(3000)} {
			wantBoth(t, form, s, row[0])
			wantBoth(t, form, "-"+s, row[1])
		}
	}
}

// Numbers that are far off, up to any power, and close to where their digits are no longer told.
func TestFar(t *testing.T) {
	for _, form := range forms.All() {
		for _, s := range []string{"1e999", "9.99e999", "1e1000", "1.5e1000", "99e999", nines(1000), nines(1001), nines(3000), "1e5000", "1e5001", "7e99999999999999999999", "1e" + nines(5000), "." + zeros(3000) + "1e9000", nines(4000) + "e-3000"} {
			for _, mode := range modes {
				want(t, form, mode, s, large[form][mode-api.Saturate])
				want(t, form, mode, "-"+s, large[form][mode-api.Saturate+2])
			}
		}
		for _, s := range []string{"1e-999", "1e-1000", "9.99e-1001", "1e-1001", "1e-5000", "1e-5001", "7e-99999999999999999999", "1e-" + nines(5000), "." + zeros(3000) + "1", "." + zeros(1000) + nines(3000), nines(3000) + "e-5000", "5e-9223372036854775808", "5e-18446744073709551616"} {
			wantBoth(t, form, s, small[form][0])
			wantBoth(t, form, "-"+s, small[form][1])
		}
	}
}

// Posits lose no number to 0, nor to NaR.
func TestPositsLoseNone(t *testing.T) {
	for form, least := range map[int]uint64{api.Posit8: 1, api.Posit16: 1, api.Posit32: 1, api.Posit64: 1} {
		minus := -least & (math.MaxUint64 >> (64 - formOf(form).Width))
		for k := 76; k < 1100; k += 7 {
			power := strconv.Itoa(k)
			wantBoth(t, form, "1e-"+power, least)
			wantBoth(t, form, "-9.99E-"+power, minus)
			want(t, form, api.Special, "1e"+power, large[form][0])
			want(t, form, api.Special, "-9.99e+0"+power, large[form][2])
		}
	}
}

// A number of a form has its pattern, in whatever way it is written.
func TestNumbersOfForms(t *testing.T) {
	t.Parallel()
	for _, form := range forms.All() {
		for _, neg := range signs(formOf(form)) {
			for _, key := range keysOf(mostOf(formOf(form), neg)) {
				m, e, _ := value.At(form, key)
				if m == 0 {
					continue
				}
				texts := decimalOf(m, e).texts()
				if key%4 > 0 {
					i := int(key>>2) % len(texts)
					texts = texts[i : i+1]
				}
				for _, s := range texts {
					if neg {
						s = "-" + s
					}
					wantBoth(t, form, s, patternOf(form, api.Special, neg, key))
				}
			}
		}
	}
}

// At a boundary the even key has the number; beside it, the key of that side, even so little beside it
// that a number that had been rounded to a wider form ahead would stand at the boundary.
func TestBoundaries(t *testing.T) {
	t.Parallel()
	for _, form := range forms.All() {
		least := uint64(0)
		if formOf(form).Kind == forms.Tapered {
			least = 1
		}
		for _, neg := range signs(formOf(form)) {
			for _, key := range keysOf(mostOf(formOf(form), neg)) {
				d := behind(form, key)
				wantKey(t, form, neg, d, max(least, key+key%2))
				for _, n := range []int{1, 50} {
					wantKey(t, form, neg, d.above(n), key+1)
					wantKey(t, form, neg, d.under(n), max(least, key))
				}
			}
		}
	}
}

// wantKey asks for the pattern of that key, of a number that is written in one of its ways.
func wantKey(t *testing.T, form int, neg bool, d decimal, key uint64) {
	t.Helper()
	texts := d.texts()
	s := texts[(len(d.digits)+int(key%64))%len(texts)]
	if neg {
		s = "-" + s
	}
	for _, mode := range modes {
		want(t, form, mode, s, patternOf(form, mode, neg, key))
	}
}

// What tells the side may stand behind more digits than are told of any number.
func TestLongTails(t *testing.T) {
	t.Parallel()
	for _, form := range forms.All() {
		top := formOf(form).Top
		for _, key := range []uint64{1, 2, top / 2, top/2 + 1, top - 1, top} {
			d := behind(form, key)
			for _, n := range []int{1900, 1990 - len(d.digits), 1989 - len(d.digits), 1988 - len(d.digits), 1991, 3000, 20000} {
				wantKey(t, form, false, d.above(n), key+1)
				wantKey(t, form, false, d.under(n), key)
				wantKey(t, form, false, decimal{d.digits + zeros(n), d.k - n}, key+key%2)
			}
		}
	}
}

// Texts of all shapes, held against fractions and the boundaries of each form.
func TestAgainstFractions(t *testing.T) {
	t.Parallel()
	reach := map[int]int{api.Posit8: 9, api.Posit16: 20, api.Posit32: 40, api.Posit64: 80, api.E8M0: 45, api.Binary32: 50, api.Binary64: 350}
	for _, form := range forms.All() {
		mix := mixer(form)
		for range 500 {
			s := mix.text(max(reach[form], 6))
			for _, mode := range modes {
				want(t, form, mode, s, rounded(t, form, mode, s))
			}
		}
	}
}

// The library of the machine's language rounds texts to two of the forms.
func TestAgainstMachine(t *testing.T) {
	t.Parallel()
	mix := mixer(7)
	list := []string{
		"2.2250738585072011e-308", "2.2250738585072012e-308", "2.2250738585072014e-308", "1.7976931348623158e308", "1.797693134862315807e308", "4.9e-324", "2.4703282292062327208e-324", "2.47e-324",
		"6.929001713869936e+236", "1.448997445238699", "9007199254740993", "9007199254740995", "1.00000000000000011102230246251565404236316680908203125", "1.00000000000000011102230246251565404236316680908203124",
		"1.00000000000000011102230246251565404236316680908203126", "7.0064923216240853e-46", "7.0064923216240854e-46", "1.4e-45", "3.4028235677973366e38", "3.4028235677973365e38", "1.17549435e-38", "8.5899345919999999e9", "0.1", "123456789012345678901234567890",
	}
	for range 3000 {
		list = append(list, mix.text(340), mix.text(45))
	}
	for _, s := range list {
		x, err := strconv.ParseFloat(s, 64)
		if err != nil && !math.IsInf(x, 0) {
			t.Fatal(brief(s), err)
		}
		want(t, api.Binary64, api.Special, s, math.Float64bits(x))
		y, _ := strconv.ParseFloat(s, 32)
		want(t, api.Binary32, api.Special, s, uint64(math.Float32bits(float32(y))))
	}
}
