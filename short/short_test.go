package short_test

import (
	"math/big"
	"strconv"
	"strings"
	"testing"

	"caliper/api"
	"caliper/forms"
	"caliper/parse"
	"caliper/short"
)

func TestShortTable(t *testing.T) {
	for _, x := range []struct {
		form   int
		p      uint64
		neg    bool
		digits string
		k      int
	}{
		{api.Posit8, 0x41, false, "11", -1}, {api.Posit8, 0xBF, true, "11", -1}, {api.Posit8, 0x40, false, "1", 0}, {api.Posit8, 1, false, "6", -8}, {api.Posit8, 0xFF, true, "6", -8}, {api.Posit8, 0x7F, false, "2", 7}, {api.Posit8, 0x81, true, "2", 7},
		{api.Posit16, 1, false, "1", -17}, {api.Posit16, 0x7FFF, false, "7", 16}, {api.Posit32, 1, false, "8", -37}, {api.Posit32, 0x7FFFFFFF, false, "1", 36}, {api.Posit64, 1, false, "2", -75}, {api.Posit64, 1<<63 - 1, false, "5", 74}, {api.Posit64, 1<<63 + 1, true, "5", 74},
		{api.Posit64, 1<<62 + 1, false, "1000000000000000002", -18}, {api.Posit64, 1<<62 - 1, false, "999999999999999999", -18},
		{api.E4M3, 0x7E, false, "45", 1}, {api.E4M3, 0xFE, true, "45", 1}, {api.E4M3, 1, false, "2", -3}, {api.E5M2, 0x7B, false, "6", 4}, {api.E5M2, 1, false, "2", -5}, {api.E3M2, 0x1F, false, "3", 1}, {api.E3M2, 1, false, "6", -2}, {api.E2M3, 0x1F, false, "8", 0}, {api.E2M3, 0x3F, true, "8", 0}, {api.E2M3, 0x21, true, "1", -1},
		{api.E2M1, 7, false, "6", 0}, {api.E2M1, 0xF, true, "6", 0}, {api.E2M1, 1, false, "5", -1}, {api.Int8, 0x80, true, "2", 0}, {api.Int8, 0x7F, false, "2", 0}, {api.Int8, 0x81, true, "198", -2}, {api.Int8, 1, false, "2", -2},
		{api.E8M0, 0, false, "6", -39}, {api.E8M0, 0x7D, false, "2", -1}, {api.E8M0, 0x7F, false, "1", 0}, {api.E8M0, 0xFE, false, "2", 38},
		{api.Binary16, 0x7BFF, false, "655", 2}, {api.Binary16, 0xFBFF, true, "655", 2}, {api.Binary16, 1, false, "6", -8}, {api.Binary16, 0x3555, false, "3333", -4},
		{api.Binary32, 1, false, "1", -45}, {api.Binary32, 0x7F7FFFFF, false, "34028235", 31}, {api.Binary32, 0x3DCCCCCD, false, "1", -1}, {api.Binary32, 0x4B800000, false, "16777216", 0}, {api.Binary32, 0x00800000, false, "11754944", -45},
		{api.Binary64, 0x3FB999999999999A, false, "1", -1}, {api.Binary64, 1, false, "5", -324}, {api.Binary64, 1<<63 + 1, true, "5", -324}, {api.Binary64, 0x7FEFFFFFFFFFFFFF, false, "17976931348623157", 292}, {api.Binary64, 0x0010000000000000, false, "22250738585072014", -324},
		{api.Binary64, 0x44B52D02C7E14AF6, false, "1", 23}, {api.Binary64, 0x44B52D02C7E14AF7, false, "10000000000000001", 7}, {api.Binary64, 0x3FD3333333333334, false, "30000000000000004", -17}, {api.Binary64, 0x4340000000000000, false, "9007199254740992", 0},
	} {
		wantDigits(t, "Short", x.form, x.p, x.neg, x.digits, x.k)
	}
}

// Of two that are as near the even one.
func TestShortOfTwoAsNear(t *testing.T) {
	for _, x := range []struct {
		form   int
		p      uint64
		digits string
		k      int
	}{
		{api.Posit8, 0x34, "38", -2}, {api.Posit8, 0x42, "12", -1}, {api.Posit8, 0x49, "22", -1}, {api.Posit8, 0x4F, "38", -1}, {api.Posit16, 0x1400, "7812", -6}, {api.Posit16, 0x1E00, "4688", -5}, {api.Posit16, 0x2600, "10938", -5}, {api.Posit16, 0x3980, "5938", -4},
		{api.E4M3, 0x18, "62", -3}, {api.E4M3, 0x2C, "38", -2}, {api.E4M3, 0x3E, "18", -1}, {api.E5M2, 0x30, "12", -2}, {api.E5M2, 0x3A, "8", -1}, {api.E3M2, 0x0A, "8", -1}, {api.E3M2, 0x0D, "12", -1}, {api.E2M3, 2, "2", -1}, {api.E2M3, 6, "8", -1}, {api.E2M3, 0x15, "32", -1},
		{api.Int8, 8, "12", -2}, {api.Int8, 0x28, "62", -2}, {api.Int8, 0x58, "138", -2}, {api.Int8, 0x78, "188", -2}, {api.E8M0, 0x7D, "2", -1}, {api.Binary16, 0x2000, "7812", -6}, {api.Binary16, 0x2A00, "4688", -5}, {api.Binary16, 0x3300, "2188", -4},
	} {
		f := formOf(x.form)
		for _, neg := range signs(f) {
			wantDigits(t, "Short", x.form, patternOf(f, neg, x.p), neg, x.digits, x.k)
		}
	}
}

// allDigits goes through all numbers of n digits, no multiples of ten, that are near to a form's numbers in size.
func allDigits(form, n int, do func(d *big.Int, k int)) {
	f := formOf(form)
	least, greatest := numberAt(f, form, false, leastOf(f)), numberAt(f, form, false, f.Top)
	from, to := len(least.digits)+least.k-n-1, len(greatest.digits)+greatest.k-n+2
	tens, _ := strconv.Atoi("1" + strings.Repeat("0", n-1))
	for d := tens; d < 10*tens; d++ {
		for k := from; k <= to && d%10 != 0; k++ {
			do(big.NewInt(int64(d)), k)
		}
	}
}

// isBetter is whether d times 10 to the power of k is nearer to the number than other is, or, if it is as near, even.
func (n number) isBetter(d *big.Int, k int, other *big.Rat) bool {
	size := rat(d, k)
	far := size.Sub(size, n.meant())
	otherFar := new(big.Rat).Sub(other, n.meant())
	side := far.Abs(far).Cmp(otherFar.Abs(otherFar))
	return side < 0 || side == 0 && d.Bit(0) == 0
}

// Of the forms of few bits: all numbers of one digit, of two, and so on, are rounded, until each pattern has one.
func TestShortOfAllThereAre(t *testing.T) {
	for _, form := range forms.All() {
		if formOf(form).Width > 8 {
			continue
		}
		t.Run(strconv.Itoa(form), func(t *testing.T) {
			t.Parallel()
			open := map[uint64]number{}
			eachNumber(form, func(n number) {
				if !n.neg || form == api.Int8 {
					open[n.p] = n
				}
			})
			for n := 1; len(open) > 0; n++ {
				settle(t, form, n, open)
			}
		})
	}
}

// settle asks for the best numbers of n digits of those patterns that have one, and takes them out.
func settle(t *testing.T, form, n int, open map[uint64]number) {
	type decimal struct {
		d    *big.Int
		k    int
		size *big.Rat
	}
	best := map[uint64]decimal{}
	for p, x := range open {
		allDigits(form, n, func(d *big.Int, k int) {
			if ratio, _ := new(big.Rat).Quo(rat(d, k), x.meant()).Float64(); ratio < 0.3 || ratio > 3 || !x.has(d, k) {
				return
			}
			if now, ok := best[p]; !ok || x.isBetter(d, k, now.size) {
				best[p] = decimal{d, k, rat(d, k)}
			}
		})
	}
	for p, now := range best {
		wantDigits(t, "Short", form, p, open[p].neg, now.d.String(), now.k)
		delete(open, p)
	}
}

// beside are the first n digits of what the pattern means, one more of the last of them, the power of ten of both,
// and -1, 0 or 1, as the first is nearer, as near, or farther.
func (n number) beside(count int) (*big.Int, *big.Int, int, int) {
	rest := ""
	digits, k := n.digits, n.k
	if count < len(digits) {
		digits, rest = digits[:count], digits[count:]
		k += len(rest)
	}
	down, _ := new(big.Int).SetString(digits, 10)
	up := new(big.Int).Add(down, big.NewInt(1))
	return down, up, k, strings.Compare(rest, "5")
}

// wantFewest asks for the first of one digit, two, and so on that has the pattern. The pattern's digits are cut as text.
func wantFewest(t *testing.T, n number) {
	t.Helper()
	for count := 1; ; count++ {
		down, up, k, side := n.beside(count)
		hasDown, hasUp := n.has(down, k), n.has(up, k)
		d := down
		if !hasDown || hasUp && (side > 0 || side == 0 && down.Bit(0) == 1) {
			d = up
		}
		if hasDown || hasUp {
			text := strings.TrimRight(d.String(), "0")
			wantDigits(t, "Short", n.form, n.p, n.neg, text, k+len(d.String())-len(text))
			return
		}
	}
}

func TestShortIsFewestAndNearest(t *testing.T) {
	for _, form := range forms.All() {
		t.Run(strconv.Itoa(form), func(t *testing.T) {
			t.Parallel()
			eachNumber(form, func(n number) { wantFewest(t, n) })
		})
	}
}

// Of the forms of sixteen bits, many patterns everywhere.
func TestShortOfSixteenBits(t *testing.T) {
	for _, form := range []int{api.Posit16, api.Binary16} {
		t.Run(strconv.Itoa(form), func(t *testing.T) {
			t.Parallel()
			f := formOf(form)
			for key := uint64(1); key <= f.Top; key += 11 {
				wantFewest(t, numberAt(f, form, key%2 == 0, key))
			}
		})
	}
}

// Round of these digits is the pattern, whatever becomes of what is too large; and never are many needed.
func TestShortThereAndBack(t *testing.T) {
	for _, form := range forms.All() {
		t.Run(strconv.Itoa(form), func(t *testing.T) {
			t.Parallel()
			eachNumber(form, func(n number) {
				d, _ := short.Short(form, n.p)
				digits := toBig(d.D).String()
				if len(digits) > 25 || strings.HasSuffix(digits, "0") {
					t.Errorf("%d, %X: %s", form, n.p, digits)
				}
				wantBack(t, n, d)
			})
		})
	}
}

// wantBack asks for the pattern of digits as a text.
func wantBack(t *testing.T, n number, d api.Digits) {
	t.Helper()
	s := toBig(d.D).String() + "e" + strconv.Itoa(d.K)
	if d.Neg {
		s = "-" + s
	}
	for _, mode := range []int{api.Saturate, api.Special} {
		if p, _, err := parse.Parse(n.form, mode, s); p != n.p || err != api.OK {
			t.Errorf("%d, %d: %s is %X, %v, not %X", n.form, mode, s, p, err, n.p)
		}
	}
}
