package qtext_test

import (
	"math/big"
	"strings"
	"testing"

	"caliper/api"
	"caliper/qtext"
)

func TestLimits(t *testing.T) {
	if qtext.MaxBits != 2048 || qtext.MaxExp != 1200 {
		t.Errorf("%d, %d", qtext.MaxBits, qtext.MaxExp)
	}
}

func TestTextTable(t *testing.T) {
	for _, x := range []struct {
		m    int64
		e    int
		want string
	}{
		{1, 0, "1"}, {9, 0, "9"}, {10, 0, "10"}, {100, 0, "100"}, {7, 0, "7"}, {1234567890, 0, "1234567890"}, {1, 3, "8"}, {5, 1, "10"}, {25, 2, "100"}, {3, 10, "3072"}, {1, 63, "9223372036854775808"}, {1, 64, "18446744073709551616"}, {1, 100, "1267650600228229401496703205376"}, {625, 4, "10000"},
		{5, -2, "1.25"}, {1, -1, "0.5"}, {3, -1, "1.5"}, {21, -1, "10.5"}, {201, -1, "100.5"}, {4, -2, "1"}, {6, -2, "1.5"}, {320, -5, "10"}, {800, -3, "100"}, {801, -3, "100.125"}, {1, -2, "0.25"}, {3, -2, "0.75"}, {1, -3, "0.125"}, {1, -4, "0.0625"}, {15, -4, "0.9375"}, {16, -4, "1"}, {17, -4, "1.0625"}, {1, -10, "0.0009765625"}, {1023, -10, "0.9990234375"}, {1025, -10, "1.0009765625"}, {2050, -10, "2.001953125"}, {1, -24, "0.000000059604644775390625"}, {3, -20, "0.00000286102294921875"}, {1 << 40, -40, "1"}, {1<<40 + 1, -40, "1.0000000000009094947017729282379150390625"}, {5 << 39, -40, "2.5"},
	} {
		wantText(t, false, whole(x.m), x.e, x.want)
		wantText(t, true, whole(x.m), x.e, "-"+x.want)
	}
}

// Of 0 it is one digit, without a sign, whatever e is.
func TestTextNoughts(t *testing.T) {
	for e := -1200; e <= 1200; e++ {
		for _, m := range []api.Nat{nil, {}, {0}, make(api.Nat, 33), make(api.Nat, 100)} {
			for _, neg := range []bool{false, true} {
				if s, err := qtext.Text(neg, m, e); s != "0" || err != api.OK {
					t.Errorf("%v, %v, %d: %s, %v", neg, m, e, s, err)
				}
			}
		}
	}
}

func TestTextAgainstFractions(t *testing.T) {
	mix := mixer(1)
	for _, bits := range sizes {
		for _, e := range append(exponents, -bits, 1-bits, -1-bits, -bits/2) {
			if e < -1200 || e > 1200 {
				continue
			}
			places := max(0, -e)
			for _, m := range []*big.Int{mix.of(bits), ones(bits), power(2, max(0, bits-1)), new(big.Int).Lsh(mix.of((bits+1)/2), uint(bits/2))} {
				if m.BitLen() > 2048 {
					continue
				}
				wantText(t, false, m, e, textOf(false, scaled(m, e), places))
				wantText(t, true, m, e, textOf(true, scaled(m, e), places))
			}
		}
	}
}

// Each exponent has its power of two: as it is, and with a 1 ahead of the point, which leaves the noughts behind it.
func TestTextPowers(t *testing.T) {
	for n := range 1201 {
		wantText(t, false, whole(1), n, power(2, n).String())
		digits := power(5, n).String()
		if n == 0 {
			continue
		}
		behind := zeros(n-len(digits)) + digits
		wantText(t, false, whole(1), -n, "0."+behind)
		wantText(t, true, new(big.Int).Add(power(2, n), whole(1)), -n, "-1."+behind)
		wantText(t, false, power(2, n), -n, "1")
	}
}

// The same number has the same text, whichever of its ways it is told in.
func TestTextSameNumber(t *testing.T) {
	mix := mixer(2)
	for _, bits := range sizes[1:] {
		for _, e := range exponents {
			m := mix.of(bits)
			s, _ := qtext.Text(true, fromBig(m), e)
			for by := 0; by <= 2048-bits && e-by >= -1200; by += 1 + by/3 {
				wantText(t, true, new(big.Int).Lsh(m, uint(by)), e-by, s)
			}
		}
	}
}

// The shape alone: one nought or none ahead, and none behind the last digit, which is a 5 behind a point.
func TestTextShape(t *testing.T) {
	mix := mixer(3)
	for range 3000 {
		m, e := mix.of(mix.below(2048)+1), mix.below(2401)-1200
		s, err := qtext.Text(false, fromBig(m), e)
		ahead, behind, hasPoint := strings.Cut(s, ".")
		isWhole := int(m.TrailingZeroBits())+e >= 0
		switch {
		case err != api.OK, ahead == "", strings.Trim(ahead+behind, "0123456789") != "", hasPoint == isWhole,
			ahead != "0" && ahead[0] == '0', hasPoint && !strings.HasSuffix(behind, "5"):
			t.Errorf("%x, %d: %s, %v", m, e, brief(s), err)
		}
	}
}

func TestTextEdges(t *testing.T) {
	for _, e := range []int{-1200, -1199, 0, 1199, 1200} {
		for _, m := range []*big.Int{whole(1), power(2, 2047), ones(2048), ones(2047)} {
			wantText(t, true, m, e, textOf(true, scaled(m, e), max(0, -e)))
		}
	}
	most, _ := qtext.Text(true, fromBig(ones(2048)), 1200)
	if len(most) != 1+978 {
		t.Errorf("%d bytes", len(most))
	}
	longest, _ := qtext.Text(true, fromBig(ones(2048)), -1200)
	if len(longest) != 1+256+1+1200 {
		t.Errorf("%d bytes", len(longest))
	}
}

// More bits than may be, however they are told, and exponents that may not be.
func TestTextWrong(t *testing.T) {
	for _, neg := range []bool{false, true} {
		for _, bits := range []int{2049, 2050, 2111, 2112, 2113, 4096, 200000} {
			for _, e := range append(noExponents, exponents...) {
				wantNoText(t, neg, fromBig(power(2, bits-1)), e)
				wantNoText(t, neg, fromBig(ones(bits)), e)
			}
			wantNoText(t, neg, append(fromBig(power(2, bits-1)), 0, 0), 0)
		}
		for _, e := range noExponents {
			for _, m := range []api.Nat{nil, {0}, {1}, {0, 1}, {5, 0}, fromBig(power(2, 1300)), fromBig(ones(2048))} {
				wantNoText(t, neg, m, e)
			}
		}
	}
}

// Noughts at the end of m count for nothing, neither as bits nor as digits.
func TestTextNoughtsAtEnd(t *testing.T) {
	mix := mixer(4)
	for _, bits := range sizes {
		for _, e := range exponents {
			m := mix.of(bits)
			want, _ := qtext.Text(true, fromBig(m), e)
			for _, n := range []int{1, 2, 40, 1000} {
				if got, err := qtext.Text(true, append(fromBig(m), make(api.Nat, n)...), e); got != want || err != api.OK {
					t.Errorf("%x and %d words, %d: %s, %v", m, n, e, brief(got), err)
				}
			}
		}
	}
}
