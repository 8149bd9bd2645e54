package layout_test

import (
	"math/big"
	"slices"
	"strconv"
	"strings"
	"testing"

	"caliper/api"
	"caliper/layout"
)

func toBig(n api.Nat) *big.Int {
	x := new(big.Int)
	for _, w := range slices.Backward(n) {
		x.Lsh(x, 64).Or(x, new(big.Int).SetUint64(w))
	}
	return x
}

func fromBig(n *big.Int) (words api.Nat) {
	mask := new(big.Int).SetUint64(1<<64 - 1)
	for x := new(big.Int).Set(n); x.Sign() != 0; x.Rsh(x, 64) {
		words = append(words, new(big.Int).And(x, mask).Uint64())
	}
	return words
}

// digits are those of a text of digits, be they right or not.
func digits(neg bool, s string, k int) api.Digits {
	n, ok := new(big.Int).SetString(s, 10)
	if !ok {
		panic(s)
	}
	return api.Digits{Neg: neg, D: fromBig(n), K: k}
}

// told is digits in plain text, so that they can be held against each other.
type told struct {
	neg bool
	d   string
	k   int
}

func tell(d api.Digits) told { return told{d.Neg, toBig(d.D).String(), d.K} }

// mixed are so many digits without a pattern, always the same ones for a seed; neither the first nor the last is 0.
func mixed(seed uint64, length int) string {
	s := make([]byte, length)
	for i := range s {
		seed = seed*6364136223846793005 + 1442695040888963407
		s[i] = '0' + byte(seed>>60%10)
	}
	for _, end := range []int{0, length - 1} {
		if s[end] == '0' {
			s[end] = '7'
		}
	}
	return string(s)
}

// lengths are of digits: about each turn, and of few and of many.
var lengths = []int{1, 2, 3, 4, 5, 6, 7, 8, 17, 18, 19, 20, 21, 22, 23, 24, 37, 38, 39, 40, 41, 100, 767, 1990, 1998, 1999, 2000}

// eachRight goes through right digits: of each length those about each turn of the point's place, and at the edges of K.
func eachRight(do func(d api.Digits)) {
	for i, n := range lengths {
		var powers []int
		for point := -12; point <= 30; point++ {
			powers = append(powers, point-n)
		}
		for k := -3; k <= 3; k++ {
			powers = append(powers, k, 5000-k*k, -5000+k*k, 1000*k, 1000*k-n)
		}
		slices.Sort(powers)
		for _, k := range slices.Compact(powers) {
			do(digits(false, mixed(uint64(i), n), k))
			do(digits(true, mixed(uint64(n-k), n), k))
		}
	}
}

// wantText asks for right digits with this text, which has these digits.
func wantText(t *testing.T, d api.Digits, want string) {
	t.Helper()
	if !layout.Right(d) {
		t.Errorf("%v is not right", d)
	}
	if got := layout.Layout(d); got != want {
		t.Errorf("%v: %s, want %s", d, got, want)
	}
	wantDigits(t, want, tell(d))
}

func wantDigits(t *testing.T, s string, want told) {
	t.Helper()
	d, err := layout.Unlay(s)
	if len(d.D) > 0 && d.D[len(d.D)-1] == 0 {
		t.Errorf("%s: %v is not normal", s, d.D)
	}
	if tell(d) != want || err != api.OK {
		t.Errorf("%s: %v, %v, want %v", s, tell(d), err, want)
	}
}

// wantNoText asks for nothing but ErrSyntax.
func wantNoText(t *testing.T, s string) {
	t.Helper()
	if d, err := layout.Unlay(s); d.Neg || len(d.D) != 0 || d.K != 0 || err != api.ErrSyntax {
		t.Errorf("%q: %v, %v", s, d, err)
	}
}

// wantWrong asks for no text of digits that are not right.
func wantWrong(t *testing.T, d api.Digits) {
	t.Helper()
	if layout.Right(d) {
		t.Errorf("%v is right", d)
	}
	if s := layout.Layout(d); s != "" {
		t.Errorf("%v: %s", d, s)
	}
}

func nines(n int) string { return strings.Repeat("9", n) }

func noughts(n int) string { return strings.Repeat("0", n) }

func power(n int) string { return "e" + strconv.Itoa(n) }
