package print_test

import (
	"math/big"
	"strconv"
	"testing"

	"caliper/api"
	"caliper/parse"
)

// The text by PrintFull is just what the pattern means, as fractions have it.
func TestFullIsTheNumber(t *testing.T) {
	eachForm(t, func(t *testing.T, r row) {
		for _, p := range r.patterns() {
			if s, ok := finiteText(t, "PrintFull", r, p); ok && numberOf(t, s).Cmp(meant(r.form, p)) != 0 {
				t.Errorf("%d, %X: %s", r.form, p, s)
			}
		}
	})
}

// What is printed is parsed to the pattern, by either mode; of all that are no numbers to one.
func TestThereAndBack(t *testing.T) {
	eachForm(t, func(t *testing.T, r row) {
		for _, p := range r.patterns() {
			want := p
			if r.word(p) == "nan" {
				want = r.nan
			}
			for name, call := range calls {
				s, _ := call(r.form, p)
				for _, mode := range modes {
					if back, _, err := parse.Parse(r.form, mode, s); back != want || err != api.OK {
						t.Errorf("%s of %d, %X: %q is %X, %v, by %d", name, r.form, p, s, back, err, mode)
					}
				}
			}
		}
	})
}

// decimal is a number of few digits: d times 10 to the power of k.
type decimal struct {
	d *big.Int
	k int
}

func (x decimal) rat() *big.Rat { return rat(x.d, x.k) }

// hasPattern is whether x, or -x, is rounded to p.
func (x decimal) hasPattern(form int, p uint64, neg bool) bool {
	s := x.d.String() + "e" + strconv.Itoa(x.k)
	if neg {
		s = "-" + s
	}
	got, _, err := parse.Parse(form, api.Special, s)
	return got == p && err == api.OK
}

// beside are the two numbers beside the size of x whose digits end at 10 to the power of k; the first one is at most x.
func beside(x *big.Rat, k int) (decimal, decimal) {
	tens := new(big.Rat).Quo(x, rat(big.NewInt(1), k))
	down := new(big.Int).Quo(tens.Num(), tens.Denom())
	return decimal{down, k}, decimal{new(big.Int).Add(down, big.NewInt(1)), k}
}

// isBetter is whether x is nearer to what is meant than y is, or, if it is as near, even.
func (x decimal) isBetter(y decimal, meant *big.Rat) bool {
	far, otherFar := new(big.Rat).Sub(x.rat(), meant), new(big.Rat).Sub(y.rat(), meant)
	side := far.Abs(far).Cmp(otherFar.Abs(otherFar))
	return side < 0 || side == 0 && x.d.Bit(0) == 0
}

// wantShortest asks for no fewer digits, and for the nearest of so many, that are parsed to the pattern.
func wantShortest(t *testing.T, r row, p uint64, s string) {
	t.Helper()
	size := meant(r.form, p)
	neg := size.Sign() < 0
	size.Abs(size)
	digits, k := digitsOf(s)
	if down, up := beside(size, k+1); len(digits) > 1 && (down.hasPattern(r.form, p, neg) || up.hasPattern(r.form, p, neg)) {
		t.Errorf("%d, %X: %s, but fewer digits would do", r.form, p, s)
	}
	d, _ := new(big.Int).SetString(digits, 10)
	told := decimal{d, k}
	down, up := beside(size, k)
	for _, other := range []decimal{down, up} {
		if other.rat().Cmp(told.rat()) != 0 && other.hasPattern(r.form, p, neg) && !told.isBetter(other, size) {
			t.Errorf("%d, %X: %s, but %v is nearer, or even", r.form, p, s, other)
		}
	}
}

// Of all digits that mean a pattern there are told the fewest, and of these the nearest.
func TestShortest(t *testing.T) {
	eachForm(t, func(t *testing.T, r row) {
		for i, p := range r.patterns() {
			if r.width == 16 && i%7 != 0 && i%1024 > 8 {
				continue
			}
			if s, ok := finiteText(t, "Print", r, p); ok {
				wantShortest(t, r, p, s)
			}
		}
	})
}
