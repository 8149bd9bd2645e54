package quire_test

import (
	"math"
	"math/big"
	"slices"
	"strconv"
	"testing"

	"caliper/api"
	"caliper/quire"
	"caliper/round"
	"caliper/value"
)

// noForms are numbers of no form.
var noForms = []int{0, 15, 16, 99, -1, -4, -14, 256 + 1, 1<<32 + 1, math.MinInt32, math.MaxInt32, math.MinInt, math.MinInt + 1, math.MaxInt}

// otherForms are those that are none of the posits.
var otherForms = []int{api.E4M3, api.E5M2, api.E3M2, api.E2M3, api.E2M1, api.Int8, api.E8M0, api.Binary16, api.Binary32, api.Binary64}

// row is a form of posits, with what the document says of its quire: all of it is written out.
type row struct {
	form, width, size, point int
	one, nar                 uint64
}

var rows = []row{
	{api.Posit8, 8, 128, 48, 0x40, 0x80},
	{api.Posit16, 16, 256, 112, 0x4000, 0x8000},
	{api.Posit32, 32, 512, 240, 0x40000000, 0x80000000},
	{api.Posit64, 64, 1024, 496, 1 << 62, 1 << 63},
}

func eachForm(t *testing.T, do func(t *testing.T, r row)) {
	for _, r := range rows {
		t.Run(strconv.Itoa(r.form), func(t *testing.T) {
			t.Parallel()
			do(t, r)
		})
	}
}

// all are all bits of a pattern: of all ones, too.
func (r row) all() uint64 { return math.MaxUint64 >> (64 - r.width) }

// most is the pattern of the greatest number.
func (r row) most() uint64 { return r.nar - 1 }

// other is the pattern of the number of the other sign.
func (r row) other(p uint64) uint64 { return -p & r.all() }

func (r row) made(t *testing.T) *quire.Quire {
	t.Helper()
	q, err := quire.New(r.form)
	if err != api.OK || q == nil {
		t.Fatalf("New of %d: %v, %v", r.form, q, err)
	}
	return q
}

// with is a quire with these bits.
func (r row) with(t *testing.T, b *big.Int) *quire.Quire {
	t.Helper()
	q := r.made(t)
	if err := q.Set(fromBig(b)); err != api.OK {
		t.Fatalf("%d: Set of %x: %v", r.form, b, err)
	}
	return q
}

func power(n int) *big.Int { return new(big.Int).Lsh(big.NewInt(1), uint(n)) }

func plus(x *big.Int, n int64) *big.Int { return new(big.Int).Add(x, big.NewInt(n)) }

// narBits are just the highest bit.
func (r row) narBits() *big.Int { return power(r.size - 1) }

// bitsOf are the bits of a number of steps of either sign: what does not fit is lost.
func (r row) bitsOf(steps *big.Int) *big.Int { return new(big.Int).Mod(steps, power(r.size)) }

// stepsOf is the number of two's complement that bits are.
func (r row) stepsOf(b *big.Int) *big.Int {
	if b.Cmp(r.narBits()) < 0 {
		return b
	}
	return new(big.Int).Sub(b, power(r.size))
}

// product is that of what two patterns mean, in steps; nil, if one of them is NaR.
func (r row) product(p, q uint64) *big.Int {
	x, y := r.least(p), r.least(q)
	if x == nil || y == nil {
		return nil
	}
	return x.Mul(x, y)
}

// least is how often the least number of the form goes into what a pattern means: that is whole.
func (r row) least(p uint64) *big.Int {
	v, err := value.Decode(r.form, p)
	if err != api.OK {
		panic(err)
	}
	if v.Class == api.NaN {
		return nil
	}
	n := new(big.Int).SetUint64(v.M)
	n.Lsh(n, uint(v.E+4*r.width-8))
	if v.Neg {
		n.Neg(n)
	}
	return n
}

// summed are the bits when a product is added to bits, or taken away.
func (r row) summed(b *big.Int, p, q uint64, away bool) *big.Int {
	product := r.product(p, q)
	switch {
	case b.Cmp(r.narBits()) == 0 || product == nil:
		return r.narBits()
	case away:
		product.Neg(product)
	}
	return r.bitsOf(product.Add(product, b))
}

// patterns are those of the form: all of eight bits; of more those about each turn, and some everywhere.
func (r row) patterns() (list []uint64) {
	if r.width == 8 {
		for p := range r.all() + 1 {
			list = append(list, p)
		}
		return list
	}
	mixed := uint64(r.form)
	for i := range r.width {
		mixed = mixed*6364136223846793005 + 1442695040888963407
		list = append(list, 1<<i, 1<<i-1, r.all()>>i, r.most()>>i, r.other(1<<i), r.other(1<<i+1), mixed>>(64-r.width))
	}
	slices.Sort(list)
	return slices.Compact(list)
}

// mixedPatterns are patterns without an order, none of them NaR; the middle ones are often.
func (r row) mixedPatterns(seed uint64, count int) (list []uint64) {
	for len(list) < count {
		seed = seed*6364136223846793005 + 1442695040888963407
		p := seed >> (64 - r.width)
		if seed>>20%3 == 0 {
			p = (r.one + p>>(r.width/2)) & r.all()
		}
		if p != r.nar {
			list = append(list, p)
		}
	}
	return list
}

// bits are bits that the quire may have: those about each turn, of both signs, and some everywhere.
func (r row) bits() []*big.Int {
	list := []*big.Int{new(big.Int), r.narBits(), plus(r.narBits(), 1), plus(r.narBits(), -1), plus(power(r.size), -1)}
	mixed := uint64(r.form)
	for i := range r.size {
		turn := power(i)
		for near := int64(-2); near <= 2; near++ {
			list = append(list, r.bitsOf(plus(turn, near)), r.bitsOf(plus(new(big.Int).Neg(turn), near)))
		}
		list = append(list, new(big.Int).Or(r.narBits(), turn))
		mixed = mixed*6364136223846793005 + 1442695040888963407
		list = append(list, r.bitsOf(new(big.Int).Mul(turn, new(big.Int).SetUint64(mixed))))
	}
	return list
}

// someBits are few of them, with 0, NaR and both signs.
func (r row) someBits() []*big.Int {
	one := power(r.point)
	return []*big.Int{
		new(big.Int), r.narBits(), one, r.bitsOf(new(big.Int).Neg(one)), plus(one, 1), plus(r.narBits(), 1), plus(r.narBits(), -1), plus(power(r.size), -1),
	}
}

func toBig(a api.Nat) *big.Int {
	n := new(big.Int)
	for _, w := range slices.Backward(a) {
		n.Lsh(n, 64).Or(n, new(big.Int).SetUint64(w))
	}
	return n
}

func fromBig(n *big.Int) (a api.Nat) {
	for rest := new(big.Int).Set(n); rest.Sign() > 0; rest.Rsh(rest, 64) {
		a = append(a, new(big.Int).And(rest, new(big.Int).SetUint64(math.MaxUint64)).Uint64())
	}
	return a
}

// takeOut takes a factor out of n, as often as it goes, and answers how often.
func takeOut(n *big.Int, factor int64) (often int) {
	for by := big.NewInt(factor); n.Sign() != 0; often++ {
		rest, left := new(big.Int).QuoRem(n, by, new(big.Int))
		if left.Sign() != 0 {
			break
		}
		n.Set(rest)
	}
	return often
}

// valueOf is what Value tells of bits that are not those of NaR.
func (r row) valueOf(b *big.Int) api.Exact {
	steps := r.stepsOf(b)
	n := new(big.Int).Abs(steps)
	two, five := takeOut(n, 2), takeOut(n, 5)
	if n.Sign() == 0 {
		return api.Exact{}
	}
	return api.Exact{Neg: steps.Sign() < 0, N: fromBig(n), Two: two - r.point, Five: five}
}

func same(x, y api.Exact) bool {
	return x.Neg == y.Neg && slices.Equal(x.N, y.N) && x.Two == y.Two && x.Five == y.Five
}

// wantBits asks for just these bits, told in normal words, and whether they are NaR.
func (r row) wantBits(t *testing.T, q *quire.Quire, b *big.Int, of ...any) {
	t.Helper()
	if got := q.Bits(); !slices.Equal(got, fromBig(b)) {
		t.Errorf("%d, %v: Bits are %x, want %x", r.form, of, got, fromBig(b))
	}
	if q.NaR() != (b.Cmp(r.narBits()) == 0) {
		t.Errorf("%d, %v: NaR of %x: %v", r.form, of, b, q.NaR())
	}
}

// wantAll asks for all that is told of a quire with these bits.
func (r row) wantAll(t *testing.T, q *quire.Quire, b *big.Int, of ...any) {
	t.Helper()
	r.wantBits(t, q, b, of...)
	if q.Size() != r.size {
		t.Errorf("%d, %v: Size is %d", r.form, of, q.Size())
	}
	got, ok := q.Value()
	if b.Cmp(r.narBits()) == 0 {
		if ok || !same(got, api.Exact{}) || q.Posit() != r.nar {
			t.Errorf("%d, %v: of NaR %v, %v, %X", r.form, of, got, ok, q.Posit())
		}
		return
	}
	want := r.valueOf(b)
	if !ok || !same(got, want) {
		t.Errorf("%d, %v: Value of %x: %v, %v, want %v", r.form, of, b, got, ok, want)
	}
	if p, err := round.Round(r.form, api.Saturate, want); err != api.OK || q.Posit() != p {
		t.Errorf("%d, %v: Posit of %x: %X, want %X, %v", r.form, of, b, q.Posit(), p, err)
	}
}

// wantOK is for calls that answer nothing but an error.
func wantOK(t *testing.T, err api.Errno, of ...any) {
	t.Helper()
	if err != api.OK {
		t.Errorf("%v: %v", of, err)
	}
}

// wantNone asks for that error of a call, whatever the quire holds, and that nothing is changed.
func (r row) wantNone(t *testing.T, want api.Errno, call func(q *quire.Quire) api.Errno, of ...any) {
	t.Helper()
	for _, b := range r.someBits() {
		q := r.with(t, b)
		if err := call(q); err != want {
			t.Errorf("%d, %v, with %x: %v, want %v", r.form, of, b, err, want)
		}
		r.wantAll(t, q, b, of...)
	}
}
