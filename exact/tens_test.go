package exact_test

import (
	"math/big"
	"testing"

	"caliper/api"
	"caliper/exact"
)

func wantReduced(t *testing.T, x api.Exact) {
	t.Helper()
	got := exact.Reduced(x)
	wantNormal(t, got.N, "Reduced", x)
	if got.Neg != x.Neg || size(got).Cmp(size(x)) != 0 {
		t.Fatalf("Reduced of %v: another number, %v", x, got)
	}
	if len(x.N) == 0 {
		if !same(got, api.Exact{Neg: x.Neg}) {
			t.Fatalf("Reduced of %v: %v", x, got)
		}
		return
	}
	for _, factor := range []int64{2, 5} {
		if new(big.Int).Rem(toBig(got.N), big.NewInt(factor)).Sign() == 0 {
			t.Fatalf("Reduced of %v: %v is a multiple of %d", x, got, factor)
		}
	}
}

func TestReduced(t *testing.T) {
	for _, x := range append(crowd(), wide()...) {
		wantReduced(t, x)
		wantReduced(t, below(x))
	}
}

// As many factors as there may be, of either kind and of both.
func TestReducedLong(t *testing.T) {
	for n := range 70 {
		for _, odd := range []int64{1, 3, 1234567} {
			for _, factor := range []int64{2, 5, 10} {
				product := new(big.Int).Mul(power(factor, n), big.NewInt(odd))
				wantReduced(t, long(fromBig(product), -n, 3))
			}
		}
	}
	for _, x := range []struct {
		n         *big.Int
		two, five int
	}{
		{power(2, 8191), 8191, 0}, {power(5, 3528), 0, 3528}, {power(10, 2466), 2466, 2466},
		{new(big.Int).Mul(power(2, 4000), power(5, 1800)), 4000, 1800},
	} {
		wantReduced(t, long(fromBig(x.n), 5000, 5000))
		if got := exact.Reduced(long(fromBig(x.n), 0, 0)); !same(got, num(1, x.two, x.five)) {
			t.Errorf("Reduced: %v, want powers %d and %d", got, x.two, x.five)
		}
	}
}

func TestReducedTable(t *testing.T) {
	for _, x := range []struct{ x, want api.Exact }{
		{api.Exact{}, api.Exact{}},
		{below(num(0, 0, 0)), api.Exact{Neg: true}},
		{below(num(0, -5000, 5000)), api.Exact{Neg: true}},
		{num(0, 5000, -5000), api.Exact{}},
		{num(1, 0, 0), num(1, 0, 0)},
		{num(1, -5000, 5000), num(1, -5000, 5000)},
		{num(10, 5000, 5000), num(1, 5001, 5001)},
		{num(10, -1, -1), num(1, 0, 0)},
		{below(num(50, -3, 2)), below(num(1, -2, 4))},
		{num(most, 7, 7), num(most/5, 7, 8)},
	} {
		if got := exact.Reduced(x.x); !same(got, x.want) {
			t.Errorf("Reduced of %v: %v", x.x, got)
		}
	}
}

// Two numbers are the same just if they are so Reduced.
func TestReducedSame(t *testing.T) {
	list := crowd()
	reduced, sizes := make([]api.Exact, len(list)), sizesOf(list)
	for i, x := range list {
		reduced[i] = exact.Reduced(x)
	}
	for i, a := range list {
		for j, b := range list {
			if same(reduced[i], reduced[j]) != (sizes[i].Cmp(sizes[j]) == 0) {
				t.Fatalf("Reduced of %v, %v: %v, %v", a, b, reduced[i], reduced[j])
			}
		}
	}
}

// wantFloor reckons with fractions what Floor tells.
func wantFloor(t *testing.T, x api.Exact, k int) {
	t.Helper()
	often, left := exact.Floor(x, k)
	wantNormal(t, often, "Floor", x, k)
	tens := new(big.Rat).Quo(size(x), ratPower(10, max(-5000, min(k, 5000))))
	whole, rest := new(big.Int).QuoRem(tens.Num(), tens.Denom(), new(big.Int))
	want := 0
	if rest.Sign() > 0 {
		want = 2 + rest.Lsh(rest, 1).Cmp(tens.Denom())
	}
	if toBig(often).Cmp(whole) != 0 || left != want {
		t.Fatalf("Floor of %v, %d: %v, %d, want %v, %d", x, k, often, left, whole, want)
	}
}

func TestFloor(t *testing.T) {
	for _, x := range crowd() {
		for k := -5; k <= 5; k++ {
			wantFloor(t, x, k)
			wantFloor(t, below(x), k)
		}
	}
	for _, x := range wide() {
		for _, k := range []int{-5000, -324, 0, 17, 5000} {
			wantFloor(t, x, k)
		}
	}
}

// Powers that may not be count as the nearest that may.
func TestFloorOutside(t *testing.T) {
	for _, x := range []api.Exact{
		num(0, 0, 0), num(3, 0, 0), num(5, 5000, 5000), num(1, 5000, 5000), num(3, 4999, 4999), num(15, 4999, 4999), num(1, -5000, -5000),
		num(7, -5000, -4999), num(1, 1, 0), long(full(128), 5000, 5000),
	} {
		for _, k := range []int{minInt, -5002, -5001, -5000, 4999, 5000, 5001, 5002, maxInt} {
			wantFloor(t, x, k)
		}
	}
}

// What is left is just half, or as little as can be to one side of it, or of nothing.
func TestFloorEdges(t *testing.T) {
	for _, k := range []int{-5000, -400, -1, 0, 1, 20, 400, 2000} {
		for _, x := range []struct {
			n          uint64
			two, five  int
			often, was uint64
		}{
			{1, 0, 0, 1, 0}, {7, -1, 0, 3, 2}, {1, -1, 0, 0, 2}, {25, -1, -1, 2, 2}, {0, 0, 0, 0, 0}, {3, 1, 1, 30, 0},
			{half - 1, -64, 0, 0, 1}, {half, -64, 0, 0, 2}, {half + 1, -64, 0, 0, 3}, {1, -64, 0, 0, 1}, {most, -64, 0, 0, 3},
			{half + 1, -63, 0, 1, 1}, {most, -63, 0, 1, 3}, {half + half>>1, -63, 0, 1, 2},
		} {
			if x.two+k < -5000 || x.five+k < -5000 {
				continue
			}
			often, left := exact.Floor(num(x.n, x.two+k, x.five+k), k)
			if toBig(often).Cmp(new(big.Int).SetUint64(x.often)) != 0 || left != int(x.was) {
				t.Errorf("Floor of %v by ten to the power of %d: %v, %d", x, k, often, left)
			}
		}
	}
	if often, left := exact.Floor(num(5, -2, 0), 0); !same(long(often, 0, 0), num(1, 0, 0)) || left != 1 {
		t.Errorf("Floor of 5/4: %v, %d", often, left)
	}
}

func wantLog10(t *testing.T, x api.Exact) {
	t.Helper()
	k := exact.Log10(x)
	if len(x.N) == 0 {
		if k != 0 {
			t.Errorf("Log10 of %v: %d", x, k)
		}
		return
	}
	if s := size(x); s.Cmp(ratPower(10, k)) < 0 || s.Cmp(ratPower(10, k+1)) >= 0 {
		t.Errorf("Log10 of %v: %d", x, k)
	}
}

func TestLog10(t *testing.T) {
	for _, x := range append(crowd(), wide()...) {
		wantLog10(t, x)
		wantLog10(t, below(x))
	}
	for _, x := range []struct {
		x    api.Exact
		want int
	}{
		{api.Exact{}, 0}, {below(num(0, 7, 9)), 0}, {num(0, -5000, -5000), 0}, {num(0, 5000, 5000), 0},
		{num(1, 5000, 5000), 5000}, {num(9, 5000, 5000), 5000}, {num(10, 5000, 5000), 5001}, {num(1, -5000, -5000), -5000},
		{num(1, -1, 0), -1}, {num(1, -4, 0), -2}, {num(1, 0, -2), -2}, {num(99, -2, -2), -1}, {num(100, -2, -2), 0},
	} {
		if got := exact.Log10(x.x); got != x.want {
			t.Errorf("Log10 of %v: %d", x.x, got)
		}
	}
}

// A power of ten, and what is as little as can be to each side of it.
func TestLog10Edges(t *testing.T) {
	one := big.NewInt(1)
	for n := 1; n < 2466; n += 1 + n/20 {
		ten := power(10, n)
		less, more := new(big.Int).Sub(ten, one), new(big.Int).Add(ten, one)
		for _, k := range []int{-5000, -n, 0, 17, 5000} {
			for i, whole := range []*big.Int{less, ten, more} {
				want := n + k
				if i == 0 {
					want--
				}
				if got := exact.Log10(long(fromBig(whole), k, k)); got != want {
					t.Errorf("Log10 around %d, %d: %d", n, k, got)
				}
			}
		}
	}
}

func TestLog10OfPowers(t *testing.T) {
	for e := 1; e <= 5000; e += 1 + e/50 {
		for _, x := range []struct{ two, five int }{{e, 0}, {0, e}, {e, -e}, {-e, e}} {
			wantLog10(t, num(1, x.two, x.five))
			wantLog10(t, num(1, -x.two, -x.five))
		}
	}
}
