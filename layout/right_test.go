package layout_test

import (
	"math"
	"math/big"
	"testing"

	"caliper/api"
	"caliper/layout"
)

func TestRight(t *testing.T) {
	for _, d := range []api.Digits{
		{}, {Neg: true}, {D: api.Nat{}}, {D: api.Nat{}, Neg: true},
		{D: api.Nat{1}}, {D: api.Nat{1}, Neg: true}, {D: api.Nat{1}, K: 1}, {D: api.Nat{2}, K: -1}, {D: api.Nat{5}, K: 3}, {D: api.Nat{11}}, {D: api.Nat{101}, K: 7},
		{D: api.Nat{1}, K: 4999}, {D: api.Nat{1}, K: 5000}, {D: api.Nat{1}, K: -4999}, {D: api.Nat{1}, K: -5000}, {D: api.Nat{1}, K: 5000, Neg: true},
		{D: api.Nat{math.MaxUint64}}, {D: api.Nat{0, 1}}, {D: api.Nat{0, 0, 1}, K: -5000}, {D: api.Nat{0, 7}},
		digits(false, nines(2000), 0), digits(false, nines(2000), 5000), digits(true, nines(2000), -5000), digits(false, "1"+noughts(1998)+"1", 0), digits(false, mixed(1, 1999), 9),
	} {
		if !layout.Right(d) || layout.Layout(d) == "" {
			t.Errorf("%v is not right", tell(d))
		}
	}
}

func TestRightEach(t *testing.T) {
	eachRight(func(d api.Digits) {
		if !layout.Right(d) {
			t.Errorf("%v is not right", tell(d))
		}
	})
}

// A nought has no words, and no power.
func TestWrongNoughts(t *testing.T) {
	for _, neg := range []bool{false, true} {
		for _, k := range []int{1, -1, 2, 21, 5000, -5000, 5001, -5001, math.MaxInt, math.MinInt} {
			wantWrong(t, api.Digits{Neg: neg, K: k})
			wantWrong(t, api.Digits{Neg: neg, D: api.Nat{}, K: k})
		}
		for words := range 5 {
			wantWrong(t, api.Digits{Neg: neg, D: make(api.Nat, words+1)})
		}
	}
}

func TestWrongPowers(t *testing.T) {
	for _, k := range []int{5001, 5002, 7000, 1 << 32, math.MaxInt32, math.MaxInt - 1, math.MaxInt} {
		for _, d := range []string{"1", "12", nines(30), nines(2000)} {
			wantWrong(t, digits(false, d, k))
			wantWrong(t, digits(true, d, -k))
		}
	}
	wantWrong(t, digits(false, "1", math.MinInt))
	wantWrong(t, digits(false, nines(2000), math.MinInt))
}

func TestWrongWords(t *testing.T) {
	for _, d := range []api.Nat{{5, 0}, {1, 0, 0}, {7, 8, 0}, {0, 1, 0}, append(make(api.Nat, 50), 3, 0)} {
		wantWrong(t, api.Digits{D: d})
		wantWrong(t, api.Digits{D: d, K: -3, Neg: true})
	}
}

func TestWrongTens(t *testing.T) {
	for _, d := range []string{"10", "20", "100", "110", "1000000000", "12345678901234567890", "1" + noughts(19), "1" + noughts(20), "1" + noughts(1999), nines(1999) + "0"} {
		for _, k := range []int{0, -1, 1, 20, -20, 5000, -5000} {
			wantWrong(t, digits(false, d, k))
		}
	}
	wantWrong(t, api.Digits{D: api.Nat{0, 5}})
}

// More than 2000 digits: those that are just more, by number and by bits, and those that are far more.
func TestWrongMany(t *testing.T) {
	two := big.NewInt(2)
	for _, d := range []string{
		"1" + noughts(1999) + "1", "1" + noughts(1998) + "11", "1" + noughts(2000), nines(2001), mixed(5, 2001), mixed(6, 2002), mixed(7, 3000),
		new(big.Int).Exp(two, big.NewInt(6644), nil).String(), new(big.Int).Sub(new(big.Int).Exp(two, big.NewInt(6644), nil), big.NewInt(1)).String(), new(big.Int).Exp(two, big.NewInt(6655), nil).String(),
	} {
		wantWrong(t, digits(false, d, 0))
		wantWrong(t, digits(true, d, -2100))
	}
	for _, words := range []int{104, 105, 128, 1000, 1000000} {
		d := make(api.Nat, words)
		d[0], d[words-1] = 1, math.MaxUint64
		if words == 104 { // 6656 bits
			d[103] = 1 << 63
		}
		wantWrong(t, api.Digits{D: d})
	}
}
