package quire_test

import (
	"math/big"
	"slices"
	"testing"

	"caliper/api"
	"caliper/quire"
)

func TestNew(t *testing.T) {
	eachForm(t, func(t *testing.T, r row) {
		r.wantAll(t, r.made(t), new(big.Int), "New")
	})
}

func TestNewOfOthers(t *testing.T) {
	for _, form := range slices.Concat(noForms, otherForms) {
		if q, err := quire.New(form); q != nil || err != api.ErrForm {
			t.Errorf("New of %d: %v, %v", form, q, err)
		}
	}
}

// Bits of as many words as Size has, of fewer, and of more, that are noughts.
func TestSet(t *testing.T) {
	eachForm(t, func(t *testing.T, r row) {
		q := r.made(t)
		for _, b := range r.bits() {
			words := fromBig(b)
			for _, noughts := range []int{0, 1, r.size/64 - len(words), r.size/64 - len(words) + 1, 40} {
				q.Clear()
				wantOK(t, q.Set(append(slices.Clip(words), make(api.Nat, noughts)...)), r.form, words, noughts)
				r.wantBits(t, q, b, "Set", noughts)
			}
			r.wantAll(t, q, b, "Set")
		}
		wantOK(t, q.Set(nil), r.form)
		r.wantAll(t, q, new(big.Int), "Set of nothing")
		wantOK(t, q.Set(fromBig(r.narBits())), r.form)
		wantOK(t, q.Set(api.Nat{}), r.form)
		r.wantAll(t, q, new(big.Int), "Set of NaR, and of nothing")
	})
}

func TestSetTooMany(t *testing.T) {
	eachForm(t, func(t *testing.T, r row) {
		least := power(r.size)
		for _, b := range []*big.Int{least, plus(least, 1), new(big.Int).Or(least, r.narBits()), plus(power(r.size+1), -1), power(r.size + 1), power(r.size + 63), power(r.size + 64), power(2 * r.size), power(1 << 16)} {
			for _, noughts := range []int{0, 1, 30} {
				words := append(fromBig(b), make(api.Nat, noughts)...)
				r.wantNone(t, api.ErrRange, func(q *quire.Quire) api.Errno { return q.Set(words) }, "Set", b.BitLen(), noughts)
			}
		}
	})
}

// Just the highest bit is NaR; with any other one it is a number.
func TestNaR(t *testing.T) {
	eachForm(t, func(t *testing.T, r row) {
		r.wantAll(t, r.with(t, r.narBits()), r.narBits(), "NaR")
		for i := range r.size - 1 {
			b := new(big.Int).Or(r.narBits(), power(i))
			q := r.with(t, b)
			if x, ok := q.Value(); q.NaR() || !ok || !x.Neg {
				t.Errorf("%d: the highest bit and %d: %v, %v, %v", r.form, i, q.NaR(), x, ok)
			}
			if q = r.with(t, power(i)); q.NaR() {
				t.Errorf("%d: the bit %d is NaR", r.form, i)
			}
		}
	})
}

func TestValueTable(t *testing.T) {
	const ones = 1<<64 - 1
	for _, x := range []struct {
		form int
		bits api.Nat
		want api.Exact
	}{
		{api.Posit8, nil, api.Exact{}},
		{api.Posit8, api.Nat{1}, api.Exact{N: api.Nat{1}, Two: -48}},
		{api.Posit8, api.Nat{1 << 48}, api.Exact{N: api.Nat{1}}},
		{api.Posit8, api.Nat{10 << 48}, api.Exact{N: api.Nat{1}, Two: 1, Five: 1}},
		{api.Posit8, api.Nat{75}, api.Exact{N: api.Nat{3}, Two: -48, Five: 2}},
		{api.Posit8, api.Nat{0, 1}, api.Exact{N: api.Nat{1}, Two: 16}},
		{api.Posit8, api.Nat{0, 1 << 62}, api.Exact{N: api.Nat{1}, Two: 78}},
		{api.Posit8, api.Nat{0, 3 << 62}, api.Exact{Neg: true, N: api.Nat{1}, Two: 78}},
		{api.Posit8, api.Nat{ones, ones}, api.Exact{Neg: true, N: api.Nat{1}, Two: -48}},
		{api.Posit8, api.Nat{ones - 74, ones}, api.Exact{Neg: true, N: api.Nat{3}, Two: -48, Five: 2}},
		{api.Posit8, api.Nat{1, 1 << 63}, api.Exact{Neg: true, N: api.Nat{ones, 1<<63 - 1}, Two: -48}},
		{api.Posit16, api.Nat{0, 1 << 48}, api.Exact{N: api.Nat{1}}},
		{api.Posit16, api.Nat{0, 0, 0, 3 << 62}, api.Exact{Neg: true, N: api.Nat{1}, Two: 142}},
		{api.Posit32, api.Nat{0, 0, 0, 1 << 48}, api.Exact{N: api.Nat{1}}},
		{api.Posit32, api.Nat{0, 0, 0, 0, 0, 0, 0, 1 << 62}, api.Exact{N: api.Nat{1}, Two: 270}},
		{api.Posit64, api.Nat{0, 0, 0, 0, 0, 0, 0, 1 << 48}, api.Exact{N: api.Nat{1}}},
		{api.Posit64, api.Nat{125}, api.Exact{N: api.Nat{1}, Two: -496, Five: 3}},
		{api.Posit64, api.Nat{0, 0, 0, 0, 0, 0, 0, 0, 0, 0, 0, 0, 0, 0, 0, 3 << 62}, api.Exact{Neg: true, N: api.Nat{1}, Two: 526}},
	} {
		r := rows[x.form-1]
		q := r.with(t, toBig(x.bits))
		if got, ok := q.Value(); !ok || !same(got, x.want) {
			t.Errorf("%d: Value of %x: %v, %v", x.form, x.bits, got, ok)
		}
		r.wantAll(t, q, toBig(x.bits), "table")
	}
	for _, r := range rows {
		if got, ok := r.with(t, r.narBits()).Value(); ok || !same(got, api.Exact{}) {
			t.Errorf("%d: Value of NaR: %v, %v", r.form, got, ok)
		}
	}
}
