package qtext_test

import (
	"math/big"
	"strconv"
	"strings"
	"testing"

	"caliper/api"
	"caliper/qtext"
)

func TestParseTable(t *testing.T) {
	for _, x := range []struct {
		s string
		e int
		m int64
	}{
		{"1", 0, 1}, {"1", -1, 2}, {"1", -10, 1024}, {"7", 0, 7}, {"8", 3, 1}, {"8", 2, 2}, {"8", -1, 16}, {"10", 0, 10}, {"10", 1, 5}, {"3072", 10, 3}, {"3072", 9, 6}, {"1024", 10, 1}, {"18446744073709551616", 64, 1}, {"18446744073709551616", 62, 4},
		{"1.25", -2, 5}, {"1.25", -3, 10}, {"1.25", -4, 20}, {"0.5", -1, 1}, {".5", -1, 1}, {"5.", 0, 5}, {"0.0625", -4, 1}, {"0.0625", -6, 4}, {"0.9375", -4, 15}, {"2.001953125", -9, 1025}, {"0.000000059604644775390625", -24, 1},
		{"12.50e-1", -2, 5}, {"125e-2", -2, 5}, {"0.0125e2", -2, 5}, {"1e3", 3, 125}, {"1e3", 0, 1000}, {"1E+3", 2, 250}, {"1.5e1", 0, 15}, {"5e-1", -1, 1}, {"500e-2", 0, 5}, {"32e1", 6, 5}, {"0.00032e5", 5, 1}, {"100000e-5", 0, 1}, {"9765625e-10", -10, 1},
		{"007.500", -1, 15}, {"-000.500000", -1, 1}, {"00010", 1, 5}, {"1.000", 0, 1}, {"000.2500e+000", -2, 1}, {"5000e-0003", 0, 5},
	} {
		s := strings.TrimPrefix(x.s, "-")
		wantNumber(t, s, x.e, false, whole(x.m))
		wantNumber(t, "-"+s, x.e, true, whole(x.m))
	}
}

// A nought has no sign, and is whole, however it is written.
func TestParseNoughts(t *testing.T) {
	for _, s := range []string{"0", "00", "0.", ".0", "000.000", "0e0", "0E-5", ".0e+7", "0e1000", "0e-1001", "0e99999999999999999999", "0.0e-99999999999999999999", zeros(5000) + "." + zeros(5000) + "e" + nines(3000)} {
		for _, e := range exponents {
			wantNumber(t, s, e, false, new(big.Int))
			wantNumber(t, "-"+s, e, false, new(big.Int))
		}
	}
}

// No whole number is just it: one 2 too few, or a digit behind the point that no 2 brings back.
func TestParseNotExact(t *testing.T) {
	for _, x := range []struct {
		s string
		e int
	}{
		{"1", 1}, {"8", 4}, {"10", 2}, {"7", 1}, {"3", 1200}, {"1e3", 4}, {"3072", 11}, {"18446744073709551616", 65}, {"18446744073709551617", 1}, {"36893488147419103231", 1},
		{"1.25", -1}, {"1.25", 0}, {"1.25", 5}, {"0.5", 0}, {"0.25", -1}, {"0.0625", -3}, {"5e-1", 0}, {"12.50e-1", -1}, {"1.0000000000000000000000001", -24},
		{"0.1", -1}, {"0.1", 0}, {"0.1", -1000}, {"0.1", -1200}, {"0.2", -3}, {"0.3", -1200}, {"1.1", -1200}, {"0.01", -1200}, {"1.15", -1200}, {"1e-1", -1200}, {"8e-1", -1200}, {"64e-3", -1200}, {"1.251", -1200}, {"1.2500000000001", -1200}, {"3.3", 3}, {"16777216e-24", -1200},
	} {
		wantError(t, x.s, x.e, api.ErrExact)
		wantError(t, "-"+x.s, x.e, api.ErrExact)
	}
}

// A number of so many twos and fives is whole of just as many twos, and of no more.
func TestParseEachPower(t *testing.T) {
	for n := range 1201 {
		s := power(2, n).String()
		wantNumber(t, s, n, false, whole(1))
		if n < 1200 {
			wantError(t, s, n+1, api.ErrExact)
		}
		least := scaled(whole(1), -n).FloatString(n)
		wantNumber(t, "-"+least, -n, true, whole(1))
		wantError(t, least, 1-n, api.ErrExact)
		if n < 1200 {
			wantNumber(t, least, -n-1, false, whole(2))
		}
		if n > 0 {
			wantError(t, strings.TrimSuffix(least, "5")+"6", -1200, api.ErrExact)
		}
	}
}

// Texts of all shapes, held against fractions.
func TestParseAgainstFractions(t *testing.T) {
	mix := mixer(5)
	lengths := []int{0, 1, 1, 2, 3, 5, 19, 20, 40, 300}
	for i := range 20000 {
		s := mix.digits(lengths[mix.below(len(lengths))])
		if mix.below(2) == 0 {
			s += "." + zeros(mix.below(3)) + mix.digits(mix.below(4)) + []string{"", "5", "25", "125", "0625", "00"}[mix.below(6)]
		}
		if mix.below(2) == 0 {
			s += "e" + strconv.Itoa(mix.below(41)-20)
		}
		if i%3 == 0 {
			s = "-" + s
		}
		for _, e := range []int{mix.below(61) - 30, mix.below(11) - 5, mix.below(2401) - 1200} {
			if got, want := parse(t, s, e), read(t, s, e); got != want {
				t.Errorf("%s, %d: %v, want %v", brief(s), e, got, want)
			}
		}
	}
}

// All texts of a few bytes, those that are none among them.
func TestParseShort(t *testing.T) {
	texts := []string{""}
	for range 5 {
		for _, s := range texts {
			for _, e := range []int{-3, -1, 0, 1, 2} {
				if got, want := parse(t, s, e), read(t, s, e); got != want {
					t.Errorf("%s, %d: %v, want %v", brief(s), e, got, want)
				}
			}
		}
		var longer []string
		for _, s := range texts {
			for _, b := range "-.025e" {
				longer = append(longer, s+string(b))
			}
		}
		texts = longer
	}
}

// The whole number has just 2048 bits, or one more, whatever e is.
func TestParseBits(t *testing.T) {
	mix := mixer(6)
	for _, e := range exponents {
		for _, m := range []*big.Int{power(2, 2047), ones(2048), mix.of(2048), ones(2047), mix.of(1900)} {
			s := textOf(true, scaled(m, e), max(0, -e))
			wantNumber(t, s, e, true, m)
		}
		for _, m := range []*big.Int{power(2, 2048), new(big.Int).Add(power(2, 2048), whole(1)), ones(2049), mix.of(2049), mix.of(2050)} {
			s := textOf(true, scaled(m, e), max(0, -e))
			wantError(t, s, e, api.ErrRange)
			wantError(t, s[1:], e, api.ErrRange)
		}
	}
}

// A number that is too great, and not whole either, is the latter.
func TestParseExactAheadOfRange(t *testing.T) {
	for _, e := range []int{-5, -1, 0, 1, 5, 200, 1200} {
		for _, bits := range []int{2049, 2060} {
			s := textOf(false, scaled(ones(bits+1), e-1), max(0, 1-e))
			wantError(t, s, e, api.ErrExact)
			wantError(t, "-"+s, e, api.ErrExact)
		}
	}
	wantError(t, nines(900)+".1", -1200, api.ErrExact)
	wantError(t, nines(900)+".5", 0, api.ErrExact)
	wantError(t, nines(900)+".5", -1, api.ErrRange)
}

// Powers of ten: 5 to the power of 882 is the greatest of at most 2048 bits.
func TestParseTens(t *testing.T) {
	for k := range 1000 {
		s := "1e" + strconv.Itoa(k)
		if k <= 882 {
			wantNumber(t, s, k, false, power(5, k))
		} else {
			wantError(t, s, k, api.ErrRange)
			wantError(t, "-1"+zeros(k), k, api.ErrRange)
		}
		wantError(t, s, k+1, api.ErrExact)
		if k > 0 {
			wantError(t, "1e-"+strconv.Itoa(k), -1200, api.ErrExact)
		}
	}
}

// What Scan tells as Big is not just any whole number, whatever it is; what is a little less is too great.
func TestParseBig(t *testing.T) {
	for _, s := range []string{"1e1000", "1E+1000", "10e999", nines(1001), "1" + zeros(1000), "1e1200", "8e2000", "1e99999999999999999999", power(2, 3322).String(), "0.1e1001"} {
		for _, e := range []int{-1200, -1, 0, 1, 1000, 1200} {
			wantError(t, s, e, api.ErrExact)
			wantError(t, "-"+s, e, api.ErrExact)
		}
	}
	for _, s := range []string{"1e999", "9e999", nines(1000), "1" + zeros(999), "0.1e1000"} {
		wantError(t, s, 0, api.ErrRange)
		wantError(t, "-"+s, -1200, api.ErrRange)
	}
	for _, s := range []string{"1e-1000", "9e-1001", "1e-1001", "1e-2000", "1e-99999999999999999999", "." + zeros(1000) + "5", scaled(whole(1), -3323).FloatString(3323)} {
		for _, e := range []int{-1200, -1, 0, 1, 1200} {
			wantError(t, s, e, api.ErrExact)
			wantError(t, "-"+s, e, api.ErrExact)
		}
	}
}

// tailed is a whole number of 2 to the power of -1200 with just so many digits, of which none at the ends is 0.
func tailed(digits int) string {
	m := new(big.Int).Mul(power(10, digits-1201), power(2, 1200))
	m.Add(m, whole(1))
	return scaled(m, -1200).FloatString(1200)
}

// Of more digits than Scan tells it is ErrExact, though the number would be whole, and too great then.
func TestParseCut(t *testing.T) {
	if n := len(tailed(1990)); n != 1991 {
		t.Fatal(n)
	}
	for _, digits := range []int{1988, 1989, 1990} {
		wantError(t, tailed(digits), -1200, api.ErrRange)
		wantError(t, "-00"+tailed(digits)+"000", -1200, api.ErrRange)
		wantError(t, tailed(digits), -1199, api.ErrExact)
	}
	for _, digits := range []int{1991, 1992, 2100} {
		wantError(t, tailed(digits), -1200, api.ErrExact)
		wantError(t, "-"+tailed(digits), -1200, api.ErrExact)
	}
	wantError(t, "1."+zeros(1988)+"1", 0, api.ErrExact)
	wantError(t, "1."+zeros(1989)+"1", 0, api.ErrExact)
	wantError(t, "1."+zeros(2500)+"1", -1200, api.ErrExact)
	wantError(t, nines(990)+"."+nines(2000), -3, api.ErrExact)
}

// Noughts at both ends matter for nothing, however many they are.
func TestParseNoughtsAtEnds(t *testing.T) {
	for _, n := range []int{1, 2, 50, 1989, 1990, 1991, 3000, 20000} {
		wantNumber(t, "-"+zeros(n)+"1.25"+zeros(n), -2, true, whole(5))
		wantNumber(t, zeros(n)+"10."+zeros(n), 1, false, whole(5))
		wantNumber(t, "125"+zeros(n)+"e-"+strconv.Itoa(n+2), -2, false, whole(5))
		wantNumber(t, "."+zeros(n)+"125e"+strconv.Itoa(n+1), -2, false, whole(5))
		wantNumber(t, "5e"+zeros(n)+"1", 0, false, whole(50))
		wantError(t, zeros(n)+"1.25"+zeros(n), -1, api.ErrExact)
	}
}

// notNumbers are texts of no numbers: the words that Scan knows, and what it knows not.
var notNumbers = []string{
	"inf", "-inf", "nan", "-nan", "NaR", "-NaR",
	"", "-", "+", "+1", "--1", " 1", "1 ", "1\n", "\x00", "1\x00", "\xff", "1\u0663", ".", "-.", ".e1", "e1", "1..", "1.5.", "1,5", "0x1", "1_0", "1/2", "1e", "-1E", "1e+", "1.e-", "1e+-1", "1e1.", "1e5e", "0e", "-0x", "1.5x", "x",
	"i", "in", "Inf", "infinity", "inf ", "-infx", "+inf", "NaN", "nar", "NaRx", nines(3000) + "x", "1e1000x", "1e-2000x", "-0.0.", "1." + zeros(2500) + "1e",
}

func TestParseSyntax(t *testing.T) {
	for _, s := range notNumbers {
		for _, e := range exponents {
			wantError(t, s, e, api.ErrSyntax)
		}
	}
}

// An exponent that may not be comes first, whatever the text is.
func TestParseNoExponent(t *testing.T) {
	for _, e := range noExponents {
		for _, s := range append(notNumbers, "0", "-0", "1", "1.25", "0.1", "1e1000", "1e-1000", "1e999", "1."+zeros(2500)+"1", nines(900)) {
			wantError(t, s, e, api.ErrArg)
		}
	}
}

// Parse of Text is what it was of; with lesser e it is as often twice, with greater e it has to go out.
func TestThereAndBack(t *testing.T) {
	mix := mixer(7)
	for _, bits := range sizes {
		for _, e := range exponents {
			m := new(big.Int).Lsh(mix.of(bits-bits/4), uint(bits/4))
			neg := mix.below(2) == 0
			s, _ := qtext.Text(neg, fromBig(m), e)
			wantNumber(t, s, e, neg && bits > 0, m)
			for _, other := range append(exponents, e-1, e+1, e-7, e+7, e+int(m.TrailingZeroBits()), e+int(m.TrailingZeroBits())+1) {
				if other < -1200 || other > 1200 {
					continue
				}
				wantShifted(t, s, other, neg, m, e-other)
			}
		}
	}
}

// wantShifted asks for m times 2 to the power of by.
func wantShifted(t *testing.T, s string, e int, neg bool, m *big.Int, by int) {
	t.Helper()
	x := scaled(m, by)
	switch {
	case !x.IsInt():
		wantError(t, s, e, api.ErrExact)
	case x.Num().BitLen() > 2048:
		wantError(t, s, e, api.ErrRange)
	default:
		wantNumber(t, s, e, neg && m.Sign() != 0, x.Num())
	}
}
