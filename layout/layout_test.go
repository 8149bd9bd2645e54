package layout_test

import (
	"math"
	"math/big"
	"regexp"
	"strconv"
	"strings"
	"testing"

	"caliper/api"
	"caliper/layout"
	"caliper/scan"
)

func TestLayoutTable(t *testing.T) {
	for _, x := range []struct {
		d    string
		k    int
		want string
	}{
		{"0", 0, "0"}, {"1", 0, "1"}, {"9", 0, "9"}, {"42", 0, "42"}, {"125", -2, "1.25"}, {"125", -1, "12.5"}, {"125", 3, "125000"},
		// No point: up to 21 digits, those of noughts too.
		{"1", 1, "10"}, {"1", 19, "1" + noughts(19)}, {"1", 20, "1" + noughts(20)}, {"1", 21, "1e21"}, {"1", 22, "1e22"}, {"12", 18, "12" + noughts(18)}, {"12", 19, "12" + noughts(19)}, {"12", 20, "1.2e21"},
		{nines(20), 0, nines(20)}, {nines(20), 1, nines(20) + "0"}, {nines(20), 2, "9." + nines(19) + "e21"}, {nines(21), 0, nines(21)}, {nines(21), 1, "9." + nines(20) + "e21"}, {nines(22), 0, "9." + nines(21) + "e21"},
		{nines(2000), 0, "9." + nines(1999) + "e1999"},
		// A point within: behind 1 to 21 digits.
		{"12", -1, "1.2"}, {nines(22), -1, nines(21) + ".9"}, {nines(22), -21, "9." + nines(21)}, {nines(22), -20, "99." + nines(20)}, {nines(23), -1, "9." + nines(22) + "e21"}, {nines(23), -2, nines(21) + ".99"},
		{nines(2000), -1999, "9." + nines(1999)}, {nines(2000), -1979, nines(21) + "." + nines(1979)}, {nines(2000), -1978, "9." + nines(1999) + "e21"},
		// A point ahead, and 0 to 5 noughts.
		{"5", -1, "0.5"}, {"5", -2, "0.05"}, {"5", -5, "0.00005"}, {"5", -6, "0.000005"}, {"5", -7, "5e-7"}, {"125", -3, "0.125"}, {"125", -8, "0.00000125"}, {"125", -9, "1.25e-7"}, {nines(22), -22, "0." + nines(22)}, {nines(22), -27, "0.00000" + nines(22)}, {nines(22), -28, "9." + nines(21) + "e-7"},
		{nines(2000), -2000, "0." + nines(2000)}, {nines(2000), -2005, "0.00000" + nines(2000)}, {nines(2000), -2006, "9." + nines(1999) + "e-7"},
		// Else a power, of the first digit.
		{"3", 5000, "3e5000"}, {"3", -5000, "3e-5000"}, {"31", 5000, "3.1e5001"}, {"31", -5000, "3.1e-4999"}, {"101", 100, "1.01e102"}, {"101", -100, "1.01e-98"},
		{nines(2000), 5000, "9." + nines(1999) + "e6999"}, {nines(2000), -5000, "9." + nines(1999) + "e-3001"},
	} {
		wantText(t, digits(false, x.d, x.k), x.want)
		wantText(t, digits(true, x.d, x.k), "-"+x.want)
	}
}

// fraction is D times 10 to the power of K.
func fraction(d api.Digits) *big.Rat {
	size := new(big.Int).Exp(big.NewInt(10), big.NewInt(int64(max(d.K, -d.K))), nil)
	n := toBig(d.D)
	if d.Neg {
		n.Neg(n)
	}
	if d.K < 0 {
		return new(big.Rat).SetFrac(n, size)
	}
	return new(big.Rat).SetInt(size.Mul(size, n))
}

// A text is the number that the digits are, as fractions have it.
func TestLayoutIsTheNumber(t *testing.T) {
	eachRight(func(d api.Digits) {
		s := layout.Layout(d)
		if x, ok := new(big.Rat).SetString(s); !ok || x.Cmp(fraction(d)) != 0 {
			t.Errorf("%v: %s", tell(d), s)
		}
	})
}

// shapes are the five ways of writing, with the digits ahead of the point and behind it, and the power.
var shapes = regexp.MustCompile(`^-?(?:0|[1-9][0-9]{0,20}|[1-9][0-9]{0,20}\.[0-9]*[1-9]|0\.0{0,5}(?:[1-9][0-9]*)?[1-9]|([1-9])(?:\.([0-9]*[1-9]))?e(-?[1-9][0-9]*))$`)

// mayBe is whether some right digits have this text, as the chapter's words have it.
func mayBe(s string) bool {
	m := shapes.FindStringSubmatch(s)
	if m == nil || len(s) > 2008 {
		return false
	}
	all, _, _ := strings.Cut(s, "e")
	plain := strings.Trim(strings.NewReplacer("-", "", ".", "").Replace(all), "0")
	if len(plain) > 2000 {
		return false
	}
	if m[1] == "" {
		return true
	}
	power, err := strconv.Atoi(m[3])
	k := power - len(m[2])
	return err == nil && (power <= -7 || power >= 21) && -5000 <= k && k <= 5000
}

func TestLayoutHasItsShape(t *testing.T) {
	eachRight(func(d api.Digits) {
		if s := layout.Layout(d); !mayBe(s) || strings.HasPrefix(s, "-") != d.Neg {
			t.Errorf("%v: %s", tell(d), s)
		}
	})
}

// asHere is what the machine's language writes, as the chapter has it: with a power from 10^21 on, and below 10^-6.
func asHere(x float64) (digits, text string, k int) {
	all, power, _ := strings.Cut(strconv.FormatFloat(x, 'e', -1, 64), "e")
	whole, frac, _ := strings.Cut(all, ".")
	first, _ := strconv.Atoi(power)
	if size := math.Abs(x); size >= 1e-6 && size < 1e21 {
		return whole + frac, strconv.FormatFloat(x, 'f', -1, 64), first - len(frac)
	}
	return whole + frac, all + "e" + strconv.Itoa(first), first - len(frac)
}

func TestLayoutAsMachine(t *testing.T) {
	seed := uint64(1)
	for i := range 40000 {
		seed = seed*6364136223846793005 + 1442695040888963407
		x := math.Float64frombits(seed &^ (1 << 63))
		if i%2 == 0 {
			power := float64(int(seed>>40%60)) - 25
			x = math.Trunc(float64(seed>>55)) * math.Pow(10, power)
		}
		if x == 0 || math.IsNaN(x) || math.IsInf(x, 0) {
			continue
		}
		plain, text, k := asHere(x)
		wantText(t, digits(false, plain, k), text)
		wantText(t, digits(true, plain, k), "-"+text)
	}
}

// All digits of up to three, with all powers about the turns.
func TestLayoutFewDigits(t *testing.T) {
	texts := map[string]told{}
	for n := range 1000 {
		for k := -40; k <= 40; k++ {
			d := digits(n%2 == 1, strconv.Itoa(n), k)
			if n%10 == 0 && (n > 0 || k != 0) {
				wantWrong(t, d)
				continue
			}
			s := layout.Layout(d)
			if other, ok := texts[s]; ok {
				t.Errorf("%s is %v, and %v", s, other, tell(d))
			}
			texts[s] = tell(d)
			wantText(t, d, s)
			if x, ok := new(big.Rat).SetString(s); !ok || x.Cmp(fraction(d)) != 0 || !mayBe(s) {
				t.Errorf("%v: %s", tell(d), s)
			}
		}
	}
}

// What is written is a text to scan, and has its digits there.
func TestLayoutIsScanned(t *testing.T) {
	eachRight(func(d api.Digits) {
		s := layout.Layout(d)
		item, place, err := scan.Scan([]byte(s))
		if item.Kind != scan.Number || item.Neg != d.Neg || place != 0 || err != api.OK {
			t.Fatalf("%s: %v %d %v", s, item, place, err)
		}
		if !item.Cut && item.Big == 0 && (toBig(item.D).Cmp(toBig(d.D)) != 0 || item.K != d.K) {
			t.Errorf("%s: %v", s, item)
		}
	})
}
