package quire

import (
	"caliper/api"
	"caliper/exact"
	"caliper/nat"
	"caliper/round"
	"caliper/value"
)

// Clear makes it hold 0.
func (q *Quire) Clear() { q.bits = nil }

// Neg makes it hold the number of the other sign. The bits of NaR are the same when they are turned.
func (q *Quire) Neg() { q.bits = q.turned(q.bits) }

// Add adds the product of what a and b mean.
func (q *Quire) Add(a, b uint64) api.Errno { return q.sum(a, b, false) }

// Sub takes the product of what a and b mean away.
func (q *Quire) Sub(a, b uint64) api.Errno { return q.sum(a, b, true) }

// Load makes it hold x, if it can hold just that.
func (q *Quire) Load(x api.Exact) api.Errno {
	if !exact.Right(x) {
		return api.ErrArg
	}
	steps, ok := q.stepsOf(exact.Reduced(x))
	if !ok {
		return api.ErrExact
	}
	q.bits = q.signed(x.Neg, steps)
	return api.OK
}

// Posit is the pattern of what it holds. Posits have no number that is too large, so that the mode
// does not matter.
func (q *Quire) Posit() uint64 {
	if q.NaR() {
		return q.NaN
	}
	p, _ := round.Round(q.form, api.Special, q.held())
	return p
}

func (q *Quire) sum(a, b uint64, away bool) api.Errno {
	x, err := value.Decode(q.form, a)
	if err != api.OK {
		return err
	}
	y, err := value.Decode(q.form, b)
	if err != api.OK {
		return err
	}
	switch {
	case q.NaR():
		return api.OK
	case x.Class == api.NaN || y.Class == api.NaN:
		q.bits = q.highest()
		return api.OK
	}
	// It is below nought if an odd count of these three is so.
	neg := (x.Neg != y.Neg) != away
	q.bits = q.fitting(nat.Add(q.bits, q.signed(neg, q.product(x, y))))
	return api.OK
}

// product is the size of a product, in steps. The least product is one step, and all others are whole
// numbers of it.
func (q *Quire) product(x, y api.Value) api.Nat {
	return nat.Shl(nat.Mul(nat.Of(x.M), nat.Of(y.M)), x.E+y.E+q.point())
}
