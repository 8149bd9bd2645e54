package quire_test

import (
	"math/big"
	"slices"
	"testing"

	"caliper/api"
	"caliper/quire"
)

// owned puts words into a greater array, so that what is written behind their end is found out.
func owned(words api.Nat) (a, whole api.Nat) {
	whole = append(slices.Clone(words), 71, 72, 73, 74)
	return whole[:len(words)], whole
}

// wipe writes over words, and behind their end.
func wipe(a api.Nat) {
	a = a[:cap(a)]
	for i := range a {
		a[i] = 0xDEAD
	}
}

// each is what the calls that change a quire do with it.
func (r row) each() []func(q *quire.Quire) {
	return []func(q *quire.Quire){
		func(q *quire.Quire) { q.Add(r.one, 3) },
		func(q *quire.Quire) { q.Sub(r.most(), r.one) },
		func(q *quire.Quire) { q.Neg() },
		func(q *quire.Quire) { q.Load(num(7, -3, 1)) },
		func(q *quire.Quire) { q.Set(api.Nat{5, 6}) },
		func(q *quire.Quire) { q.Add(r.nar, 0) },
		func(q *quire.Quire) { q.Clear() },
	}
}

// What is handed in stays, behind its end too, and is not kept.
func TestHandedIn(t *testing.T) {
	eachForm(t, func(t *testing.T, r row) {
		for _, words := range []api.Nat{{}, {1}, {5, 6}, {5, 0}, {0, 1, 0, 0, 0}, {1, 1 << 63}, {0, 0, 0, 0, 0, 0, 0, 0, 0, 0, 0, 0, 0, 0, 0, 0, 1}} {
			a, whole := owned(words)
			kept := slices.Clone(whole)
			q, other := r.made(t), r.made(t)
			q.Set(a)
			other.Load(long(a, -3, 0))
			b, c := q.Bits(), other.Bits()
			for _, do := range r.each() {
				x, y := r.made(t), r.made(t)
				x.Set(a)
				y.Load(long(a, -3, 0))
				do(x)
				do(y)
			}
			if !slices.Equal(whole, kept) {
				t.Errorf("%d: %v: %v", r.form, kept, whole)
			}
			wipe(whole)
			r.wantAll(t, q, toBig(b), "Set", words)
			r.wantAll(t, other, toBig(c), "Load", words)
		}
	})
}

// What is answered is the caller's, and stays what it is when the quire is changed.
func TestAnswersOwn(t *testing.T) {
	eachForm(t, func(t *testing.T, r row) {
		for _, b := range r.someBits() {
			q := r.with(t, b)
			first, second := q.Bits(), q.Bits()
			x, _ := q.Value()
			y, _ := q.Value()
			kept := api.Exact{Neg: y.Neg, N: slices.Clone(y.N), Two: y.Two, Five: y.Five}
			wipe(first)
			wipe(x.N)
			r.wantAll(t, q, b, "written over")
			for _, do := range r.each() {
				do(q)
			}
			if !slices.Equal(second, fromBig(b)) || !same(y, kept) {
				t.Errorf("%d: of %x: %x, %v", r.form, b, second, y)
			}
		}
	})
}

// Two quires, of one form or of two, have nothing to do with each other.
func TestApart(t *testing.T) {
	eachForm(t, func(t *testing.T, r row) {
		for _, other := range rows {
			for _, b := range r.someBits() {
				q, beside := r.with(t, b), other.made(t)
				for _, do := range other.each() {
					do(beside)
					r.wantBits(t, q, b, "beside", other.form)
				}
				beside.Set(q.Bits())
				for _, do := range other.each() {
					do(beside)
					r.wantAll(t, q, b, "beside", other.form)
				}
			}
		}
	})
}

// What is asked changes nothing, and the same calls have the same answers.
func TestSameAgain(t *testing.T) {
	eachForm(t, func(t *testing.T, r row) {
		for _, b := range r.someBits() {
			q := r.with(t, b)
			for range 3 {
				r.wantAll(t, q, b, "again")
			}
		}
		q, beside := r.made(t), r.made(t)
		ps := r.mixedPatterns(5, 100)
		for i := 1; i < len(ps); i++ {
			q.Add(ps[i-1], ps[i])
			q.Posit()
			q.Value()
			beside.Add(ps[i-1], ps[i])
		}
		r.wantAll(t, q, toBig(beside.Bits()), "the same calls")
		q.Clear()
		r.wantAll(t, q, new(big.Int), "Clear")
	})
}
