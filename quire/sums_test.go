package quire_test

import (
	"math/big"
	"testing"

	"caliper/api"
	"caliper/quire"
)

func TestProductsTable(t *testing.T) {
	const ones = 1<<64 - 1
	for _, x := range []struct {
		form int
		a, b uint64
		want api.Nat
	}{
		{api.Posit8, 0x40, 0x40, api.Nat{1 << 48}}, {api.Posit8, 0x4C, 0x4C, api.Nat{9 << 48}}, {api.Posit8, 1, 1, api.Nat{1}}, {api.Posit8, 0x7F, 0x7F, api.Nat{0, 1 << 32}}, {api.Posit8, 1, 0x7F, api.Nat{1 << 48}},
		{api.Posit8, 0xC0, 0x40, api.Nat{1<<64 - 1<<48, ones}}, {api.Posit8, 0xC0, 0xC0, api.Nat{1 << 48}}, {api.Posit8, 0xFF, 1, api.Nat{ones, ones}}, {api.Posit8, 0x81, 0x7F, api.Nat{0, 1<<64 - 1<<32}}, {api.Posit8, 0, 0x7F, nil}, {api.Posit8, 0xFF, 0, nil}, {api.Posit8, 0, 0, nil},
		{api.Posit8, 0x41, 0x41, api.Nat{81 << 42}}, {api.Posit8, 2, 1, api.Nat{1 << 4}}, {api.Posit8, 0x80, 0, api.Nat{0, 1 << 63}}, {api.Posit8, 0x40, 0x80, api.Nat{0, 1 << 63}},
		{api.Posit16, 0x4000, 0x4000, api.Nat{0, 1 << 48}}, {api.Posit16, 1, 1, api.Nat{1}}, {api.Posit16, 0x7FFF, 0x7FFF, api.Nat{0, 0, 0, 1 << 32}}, {api.Posit16, 0xFFFF, 1, api.Nat{ones, ones, ones, ones}}, {api.Posit16, 0x8000, 1, api.Nat{0, 0, 0, 1 << 63}},
		{api.Posit32, 1 << 30, 1 << 30, api.Nat{0, 0, 0, 1 << 48}}, {api.Posit32, 1, 1, api.Nat{1}}, {api.Posit32, 1<<31 - 1, 1<<31 - 1, api.Nat{0, 0, 0, 0, 0, 0, 0, 1 << 32}}, {api.Posit32, 3 << 30, 1 << 30, api.Nat{0, 0, 0, 1<<64 - 1<<48, ones, ones, ones, ones}},
		{api.Posit64, 1 << 62, 1 << 62, api.Nat{0, 0, 0, 0, 0, 0, 0, 1 << 48}}, {api.Posit64, 1, 1, api.Nat{1}}, {api.Posit64, 1, ones, api.Nat{ones, ones, ones, ones, ones, ones, ones, ones, ones, ones, ones, ones, ones, ones, ones, ones}},
		{api.Posit64, 1<<63 - 1, 1<<63 - 1, api.Nat{0, 0, 0, 0, 0, 0, 0, 0, 0, 0, 0, 0, 0, 0, 0, 1 << 32}}, {api.Posit64, 1<<62 + 1, 1<<62 + 1, api.Nat{0, 0, 0, 0, 0, 1 << 58, 1 << 54, 1 << 48}},
	} {
		r := rows[x.form-1]
		q := r.made(t)
		wantOK(t, q.Add(x.a, x.b), x.form, x.a, x.b)
		r.wantAll(t, q, toBig(x.want), x.a, x.b)
	}
}

// Each pattern by each one, added and taken away, where nothing is held and where something is.
func TestProducts(t *testing.T) {
	eachForm(t, func(t *testing.T, r row) {
		start := r.bitsOf(big.NewInt(-5))
		for i, p := range r.patterns() {
			for j, other := range r.patterns() {
				q := r.made(t)
				wantOK(t, q.Add(p, other), r.form, p, other)
				b := r.summed(new(big.Int), p, other, false)
				r.wantBits(t, q, b, "Add", p, other)
				q = r.with(t, start)
				wantOK(t, q.Sub(p, other), r.form, p, other)
				r.wantBits(t, q, r.summed(start, p, other, true), "Sub", p, other)
				if (i+j)%31 == 0 {
					r.wantAll(t, q, r.summed(start, p, other, true), "Sub", p, other)
				}
			}
		}
	})
}

// Long sums, of both signs, turned now and then.
func TestSums(t *testing.T) {
	eachForm(t, func(t *testing.T, r row) {
		for seed := range uint64(20) {
			q, b := r.made(t), new(big.Int)
			ps := r.mixedPatterns(seed, 200)
			for i := 0; i+1 < len(ps); i += 2 {
				away := ps[i]>>1%2 == 1
				if away {
					wantOK(t, q.Sub(ps[i], ps[i+1]), r.form, ps[i:i+2])
				} else {
					wantOK(t, q.Add(ps[i], ps[i+1]), r.form, ps[i:i+2])
				}
				b = r.summed(b, ps[i], ps[i+1], away)
				if i%14 == 0 {
					q.Neg()
					b = r.bitsOf(new(big.Int).Neg(b))
				}
				r.wantAll(t, q, b, seed, i)
			}
		}
	})
}

func TestClear(t *testing.T) {
	eachForm(t, func(t *testing.T, r row) {
		for _, b := range r.someBits() {
			q := r.with(t, b)
			q.Clear()
			r.wantAll(t, q, new(big.Int), "Clear", b)
			wantOK(t, q.Add(r.one, r.one), r.form)
			r.wantAll(t, q, power(r.point), "Clear and Add", b)
		}
	})
}

func TestNeg(t *testing.T) {
	eachForm(t, func(t *testing.T, r row) {
		for _, b := range r.bits() {
			q := r.with(t, b)
			q.Neg()
			r.wantAll(t, q, r.bitsOf(new(big.Int).Neg(b)), "Neg", b)
			q.Neg()
			r.wantBits(t, q, b, "Neg, and Neg", b)
		}
	})
}

// What was added is taken away, or its other sign is added.
func TestSubIsBack(t *testing.T) {
	eachForm(t, func(t *testing.T, r row) {
		ps := r.mixedPatterns(77, 100)
		for _, b := range r.someBits() {
			if b.BitLen() >= r.size-1 {
				continue // a sum of these may be NaR, and stay so
			}
			for i := 1; i < len(ps); i++ {
				q := r.with(t, b)
				wantOK(t, q.Add(ps[i-1], ps[i]), r.form)
				wantOK(t, q.Sub(ps[i], ps[i-1]), r.form)
				r.wantBits(t, q, b, "Add and Sub", ps[i-1:i+1])
				wantOK(t, q.Sub(ps[i-1], ps[i]), r.form)
				wantOK(t, q.Sub(r.other(ps[i-1]), ps[i]), r.form)
				r.wantBits(t, q, b, "Sub and Sub", ps[i-1:i+1])
				wantOK(t, q.Add(ps[i-1], r.other(ps[i])), r.form)
				wantOK(t, q.Sub(r.other(ps[i-1]), ps[i]), r.form)
				r.wantBits(t, q, b, "Add and Sub of the other sign", ps[i-1:i+1])
			}
		}
	})
}

// What does not fit is lost: the sum begins again at the other end.
func TestLost(t *testing.T) {
	eachForm(t, func(t *testing.T, r row) {
		last, first := plus(r.narBits(), -1), plus(r.narBits(), 1)
		for _, p := range r.patterns() {
			for _, other := range []uint64{2, 3, r.one, r.most(), r.other(2), r.other(r.most())} {
				for _, b := range []*big.Int{last, first, plus(power(r.size), -1), new(big.Int)} {
					q := r.with(t, b)
					wantOK(t, q.Add(p, other), r.form, p, other)
					r.wantBits(t, q, r.summed(b, p, other, false), "Add", b, p, other)
					q = r.with(t, b)
					wantOK(t, q.Sub(p, other), r.form, p, other)
					r.wantBits(t, q, r.summed(b, p, other, true), "Sub", b, p, other)
				}
			}
		}
	})
	q := rows[0].with(t, toBig(api.Nat{1<<64 - 1, 1<<63 - 1}))
	wantOK(t, q.Add(2, 1))
	rows[0].wantAll(t, q, toBig(api.Nat{15, 1 << 63}), "15 behind NaR")
	wantOK(t, q.Sub(2, 1))
	rows[0].wantAll(t, q, toBig(api.Nat{1<<64 - 1, 1<<63 - 1}), "and back")
}

// A sum that comes to the bits of NaR is that, and stays it.
func TestSumIsNaR(t *testing.T) {
	eachForm(t, func(t *testing.T, r row) {
		calls := map[string]func(q *quire.Quire) (*big.Int, api.Errno){
			"Add": func(q *quire.Quire) (*big.Int, api.Errno) { return plus(r.narBits(), -1), q.Add(1, 1) },
			"Sub": func(q *quire.Quire) (*big.Int, api.Errno) { return plus(r.narBits(), 1), q.Sub(1, 1) },
			"Add below nought": func(q *quire.Quire) (*big.Int, api.Errno) {
				return plus(r.narBits(), 1), q.Add(1, r.other(1))
			},
			"Sub below nought": func(q *quire.Quire) (*big.Int, api.Errno) {
				return plus(r.narBits(), -1), q.Sub(r.other(1), 1)
			},
			"Add the greatest": func(q *quire.Quire) (*big.Int, api.Errno) {
				return new(big.Int).Sub(r.narBits(), power(r.size-32)), q.Add(r.most(), r.most())
			},
			"Sub the greatest": func(q *quire.Quire) (*big.Int, api.Errno) {
				return new(big.Int).Add(r.narBits(), power(r.size-32)), q.Sub(r.most(), r.most())
			},
		}
		for name, call := range calls {
			start, _ := call(r.made(t))
			q := r.with(t, start)
			_, err := call(q)
			wantOK(t, err, name)
			r.wantAll(t, q, r.narBits(), name)
			r.wantStays(t, q, name)
		}
	})
}

// wantStays asks for NaR, whatever is added, until it is cleared.
func (r row) wantStays(t *testing.T, q *quire.Quire, of ...any) {
	t.Helper()
	for _, p := range []uint64{0, 1, r.one, r.most(), r.nar, r.nar + 1, r.all()} {
		for _, other := range []uint64{0, 1, r.one, r.nar, r.all()} {
			wantOK(t, q.Add(p, other), of...)
			r.wantBits(t, q, r.narBits(), "Add to NaR", p, other, of)
			wantOK(t, q.Sub(p, other), of...)
			r.wantBits(t, q, r.narBits(), "Sub of NaR", p, other, of)
		}
	}
	q.Neg()
	r.wantAll(t, q, r.narBits(), "Neg of NaR", of)
	q.Clear()
	r.wantAll(t, q, new(big.Int), "Clear of NaR", of)
}

// NaR by anything, 0 too, makes NaR of whatever is held.
func TestNaRIsAdded(t *testing.T) {
	eachForm(t, func(t *testing.T, r row) {
		for _, p := range []uint64{0, 1, r.one, r.most(), r.nar, r.nar + 1, r.all()} {
			for _, b := range r.someBits() {
				for _, call := range []func(q *quire.Quire) api.Errno{
					func(q *quire.Quire) api.Errno { return q.Add(p, r.nar) },
					func(q *quire.Quire) api.Errno { return q.Add(r.nar, p) },
					func(q *quire.Quire) api.Errno { return q.Sub(p, r.nar) },
					func(q *quire.Quire) api.Errno { return q.Sub(r.nar, p) },
				} {
					q := r.with(t, b)
					wantOK(t, call(q), r.form, p)
					r.wantAll(t, q, r.narBits(), "NaR is added", p)
					r.wantStays(t, q, p)
				}
			}
		}
	})
}

// A pattern that does not fit changes nothing, be it the first, the second or both, and be the other one NaR.
func TestThatDoNotFit(t *testing.T) {
	eachForm(t, func(t *testing.T, r row) {
		for i := r.width; i < 64; i++ {
			wide := uint64(1) << i
			for _, p := range []uint64{wide, wide | r.one, wide | r.nar, wide | r.all(), 1<<64 - 1} {
				for _, other := range []uint64{0, 1, r.one, r.nar, r.all(), wide} {
					r.wantNone(t, api.ErrArg, func(q *quire.Quire) api.Errno { return q.Add(p, other) }, "Add", p, other)
					r.wantNone(t, api.ErrArg, func(q *quire.Quire) api.Errno { return q.Add(other, p) }, "Add", other, p)
					r.wantNone(t, api.ErrArg, func(q *quire.Quire) api.Errno { return q.Sub(p, other) }, "Sub", p, other)
					r.wantNone(t, api.ErrArg, func(q *quire.Quire) api.Errno { return q.Sub(other, p) }, "Sub", other, p)
				}
			}
		}
	})
}
