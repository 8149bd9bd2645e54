package quire_test

import (
	"math"
	"math/big"
	"slices"
	"testing"

	"caliper/api"
	"caliper/quire"
)

func num(n uint64, two, five int) api.Exact {
	if n == 0 {
		return api.Exact{Two: two, Five: five}
	}
	return long(api.Nat{n}, two, five)
}

func long(n api.Nat, two, five int) api.Exact { return api.Exact{N: n, Two: two, Five: five} }

func below(x api.Exact) api.Exact {
	x.Neg = true
	return x
}

func full(length int) api.Nat { return slices.Repeat(api.Nat{math.MaxUint64}, length) }

// times is x, told by 2 and 5 to the power of these more, and by as many less.
func times(x api.Exact, two, five int) api.Exact {
	n := new(big.Int).Mul(toBig(x.N), power(two))
	n.Mul(n, new(big.Int).Exp(big.NewInt(5), big.NewInt(int64(five)), nil))
	return api.Exact{Neg: x.Neg, N: fromBig(n), Two: x.Two - two, Five: x.Five - five}
}

func (r row) wantLoad(t *testing.T, q *quire.Quire, x api.Exact, b *big.Int) {
	t.Helper()
	wantOK(t, q.Load(x), r.form, x)
	r.wantBits(t, q, b, "Load", x)
}

func (r row) wantNoLoad(t *testing.T, x api.Exact, want api.Errno) {
	t.Helper()
	r.wantNone(t, want, func(q *quire.Quire) api.Errno { return q.Load(x) }, "Load", x)
	r.wantNone(t, want, func(q *quire.Quire) api.Errno { return q.Load(below(x)) }, "Load", x, "below nought")
}

// What bits hold is loaded, however it is told: by steps, reduced, and with powers of both signs. What was held is not.
func TestLoad(t *testing.T) {
	eachForm(t, func(t *testing.T, r row) {
		q := r.made(t)
		for i, b := range r.bits() {
			if b.Cmp(r.narBits()) == 0 {
				continue
			}
			steps := r.stepsOf(b)
			whole := api.Exact{Neg: steps.Sign() < 0, N: fromBig(new(big.Int).Abs(steps)), Two: -r.point}
			x := r.valueOf(b)
			r.wantLoad(t, q, whole, b)
			r.wantLoad(t, q, x, b)
			r.wantLoad(t, q, times(x, i%70, 0), b)
			r.wantLoad(t, q, times(whole, 0, i%70), b)
			if i%5 == 0 {
				r.wantLoad(t, q, times(x, 3*i%4000, 7*i%1000), b)
				r.wantAll(t, q, b, "Load", i)
			}
		}
	})
}

func TestLoadTable(t *testing.T) {
	const ones = 1<<64 - 1
	for _, x := range []struct {
		form int
		x    api.Exact
		want api.Nat
	}{
		{api.Posit8, num(1, 0, 0), api.Nat{1 << 48}}, {api.Posit8, below(num(1, 0, 0)), api.Nat{1<<64 - 1<<48, ones}}, {api.Posit8, num(5, -48, 0), api.Nat{5}}, {api.Posit8, num(5, 0, -1), api.Nat{1 << 48}}, {api.Posit8, num(1, 1, 1), api.Nat{10 << 48}},
		{api.Posit8, num(125, -3, -3), api.Nat{1 << 45}}, {api.Posit8, below(num(15, -48, -1)), api.Nat{ones - 2, ones}}, {api.Posit8, num(1, 78, 0), api.Nat{0, 1 << 62}}, {api.Posit8, below(num(1, 78, 0)), api.Nat{0, 3 << 62}},
		{api.Posit8, num(1<<63, -111, 0), api.Nat{1}}, {api.Posit8, long(api.Nat{ones, 1<<63 - 1}, -48, 0), api.Nat{ones, 1<<63 - 1}}, {api.Posit8, below(long(api.Nat{ones, 1<<63 - 1}, -48, 0)), api.Nat{1, 1 << 63}},
		{api.Posit16, num(3, 0, 0), api.Nat{0, 3 << 48}}, {api.Posit16, num(1, -112, 0), api.Nat{1}}, {api.Posit16, below(num(1, 142, 0)), api.Nat{0, 0, 0, 3 << 62}},
		{api.Posit32, num(3, 0, 0), api.Nat{0, 0, 0, 3 << 48}}, {api.Posit32, num(1, -240, 0), api.Nat{1}}, {api.Posit32, num(1, 270, 0), api.Nat{0, 0, 0, 0, 0, 0, 0, 1 << 62}},
		{api.Posit64, num(3, 0, 0), api.Nat{0, 0, 0, 0, 0, 0, 0, 3 << 48}}, {api.Posit64, num(1, -496, 0), api.Nat{1}}, {api.Posit64, num(1, 526, 0), api.Nat{0, 0, 0, 0, 0, 0, 0, 0, 0, 0, 0, 0, 0, 0, 0, 1 << 62}},
	} {
		r := rows[x.form-1]
		for _, b := range r.someBits() {
			r.wantLoad(t, r.with(t, b), x.x, toBig(x.want))
		}
	}
}

// Noughts are 0, whatever their signs and powers.
func TestLoadNoughts(t *testing.T) {
	eachForm(t, func(t *testing.T, r row) {
		for _, two := range []int{-5000, -r.point - 1, -1, 0, 1, 5000} {
			for _, five := range []int{-5000, -1, 0, 1, 5000} {
				for _, x := range []api.Exact{num(0, two, five), below(num(0, two, five)), long(api.Nat{}, two, five)} {
					for _, b := range r.someBits() {
						r.wantLoad(t, r.with(t, b), x, new(big.Int))
					}
				}
			}
		}
	})
}

// One bit too many, below the lowest one or above, keeps a number out.
func TestLoadJustOut(t *testing.T) {
	eachForm(t, func(t *testing.T, r row) {
		q, top := r.made(t), r.size-1-r.point
		for _, n := range []uint64{1, 3, 5, 25, 7, math.MaxUint64} {
			r.wantLoad(t, q, num(n, -r.point, 0), new(big.Int).SetUint64(n))
			r.wantNoLoad(t, num(n, -r.point-1, 0), api.ErrExact)
			r.wantNoLoad(t, num(n, -r.point-1, 7), api.ErrExact)
			r.wantNoLoad(t, num(n, -5000, 0), api.ErrExact)
		}
		r.wantLoad(t, q, num(1<<20, -r.point-20, 0), big.NewInt(1))
		r.wantNoLoad(t, num(1<<20, -r.point-21, 0), api.ErrExact)
		r.wantLoad(t, q, num(1, top-1, 0), power(r.size-2))
		r.wantNoLoad(t, num(1, top, 0), api.ErrExact)
		r.wantNoLoad(t, num(1, top+1, 0), api.ErrExact)
		r.wantNoLoad(t, num(3, top-1, 0), api.ErrExact)
		r.wantNoLoad(t, num(1<<10, top-10, 0), api.ErrExact)
		r.wantNoLoad(t, num(1, 5000, 0), api.ErrExact)
		most := fromBig(plus(r.narBits(), -1))
		r.wantLoad(t, q, long(most, -r.point, 0), plus(r.narBits(), -1))
		r.wantLoad(t, q, below(long(most, -r.point, 0)), plus(r.narBits(), 1))
		for _, out := range []*big.Int{r.narBits(), plus(r.narBits(), 1), plus(power(r.size), -1), power(r.size), plus(power(r.size), 1)} {
			r.wantNoLoad(t, long(fromBig(out), -r.point, 0), api.ErrExact)
			r.wantNoLoad(t, times(long(fromBig(out), -r.point, 0), 5, 9), api.ErrExact)
		}
	})
}

// fivesOf is how many fives fit into so many bits, and their product.
func fivesOf(bits int) (int, *big.Int) {
	n, product := 0, big.NewInt(1)
	for next := big.NewInt(5); next.BitLen() <= bits; next = new(big.Int).Mul(next, big.NewInt(5)) {
		n, product = n+1, next
	}
	return n, product
}

func TestLoadFives(t *testing.T) {
	if n, _ := fivesOf(79); n != 34 {
		t.Fatal(n)
	}
	eachForm(t, func(t *testing.T, r row) {
		q := r.made(t)
		most, product := fivesOf(r.size - 1)
		r.wantLoad(t, q, num(1, -r.point, most), product)
		r.wantNoLoad(t, num(1, -r.point, most+1), api.ErrExact)
		most, product = fivesOf(r.size - 1 - r.point)
		r.wantLoad(t, q, num(1, 0, most), new(big.Int).Lsh(product, uint(r.point)))
		r.wantNoLoad(t, num(1, 0, most+1), api.ErrExact)
		r.wantNoLoad(t, num(1, 0, 5000), api.ErrExact)
		for _, fives := range []int{1, 2, 16, 17, 33, 500, 3500} {
			x := times(num(3, 0, 0), 0, fives)
			r.wantLoad(t, q, x, new(big.Int).Lsh(big.NewInt(3), uint(r.point)))
			x.Five--
			r.wantNoLoad(t, x, api.ErrExact)
			x.Two = 100
			r.wantNoLoad(t, x, api.ErrExact)
		}
		for _, n := range []uint64{1, 2, 3, 1 << 40, 24} {
			r.wantNoLoad(t, num(n, 0, -1), api.ErrExact)
			r.wantNoLoad(t, num(n, 70, -1), api.ErrExact)
			r.wantNoLoad(t, num(n, 5000, -5000), api.ErrExact)
		}
	})
}

// Numbers of many words, and powers as far as they go.
func TestLoadFar(t *testing.T) {
	eachForm(t, func(t *testing.T, r row) {
		q := r.made(t)
		for _, x := range []api.Exact{long(full(128), 0, 0), long(full(128), -5000, 0), long(full(128), 5000, 5000), long(full(128), -5000, -5000), long(full(128), 5000, -5000), long(full(128), -5000, 5000), num(1, 5000, 5000), num(1, -5000, -5000), num(1, -5000, 5000)} {
			r.wantNoLoad(t, x, api.ErrExact)
		}
		far := fromBig(power(8191))
		r.wantNoLoad(t, long(far, 5000, 0), api.ErrExact)
		r.wantNoLoad(t, long(far, -5000, 0), api.ErrExact)
		r.wantLoad(t, q, times(num(1, 0, 0), 5000, 0), power(r.point))
		r.wantLoad(t, q, times(num(1, 0, 0), 191, 3445), power(r.point))
		r.wantLoad(t, q, long(fromBig(power(5000-r.point)), -5000, 0), big.NewInt(1))
		r.wantNoLoad(t, long(fromBig(power(4999-r.point)), -5000, 0), api.ErrExact)
	})
}

func TestLoadWrong(t *testing.T) {
	list := []api.Exact{
		long(api.Nat{0}, 0, 0), long(api.Nat{1, 0}, 0, 0), long(api.Nat{7, 0, 0}, 3, 3), long(full(129), 0, 0),
		long(append(full(127), 0), 0, 0), long(make(api.Nat, 300), 0, 0), long(append(make(api.Nat, 128), 1), -5000, -5000),
	}
	for _, far := range []int{-5001, 5001, 1 << 40, math.MinInt, math.MaxInt} {
		for _, n := range []uint64{0, 1, 5} {
			list = append(list, num(n, far, 0), num(n, 0, far), num(n, far, far))
		}
	}
	eachForm(t, func(t *testing.T, r row) {
		for _, x := range list {
			r.wantNoLoad(t, x, api.ErrArg)
		}
	})
}

// What Value tells is loaded again, and is the same.
func TestLoadOfValue(t *testing.T) {
	eachForm(t, func(t *testing.T, r row) {
		for _, b := range r.bits() {
			if x, ok := r.with(t, b).Value(); ok {
				r.wantLoad(t, r.with(t, r.narBits()), x, b)
			}
		}
	})
}
