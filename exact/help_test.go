package exact_test

import (
	"math"
	"math/big"
	"slices"
	"testing"

	"caliper/api"
	"caliper/nat"
)

const (
	minInt = math.MinInt
	maxInt = math.MaxInt
	most   = math.MaxUint64
	half   = 1 << 63
)

func num(n uint64, two, five int) api.Exact { return long(nat.Of(n), two, five) }

func long(n api.Nat, two, five int) api.Exact { return api.Exact{N: n, Two: two, Five: five} }

func below(x api.Exact) api.Exact {
	x.Neg = true
	return x
}

// toBig is an independent reading of the words.
func toBig(a api.Nat) *big.Int {
	n := new(big.Int)
	for _, w := range slices.Backward(a) {
		n.Lsh(n, 64).Or(n, new(big.Int).SetUint64(w))
	}
	return n
}

func fromBig(n *big.Int) api.Nat {
	var a api.Nat
	for rest := new(big.Int).Set(n); rest.Sign() > 0; rest.Rsh(rest, 64) {
		a = append(a, new(big.Int).And(rest, new(big.Int).SetUint64(most)).Uint64())
	}
	return a
}

func power(base int64, n int) *big.Int {
	return new(big.Int).Exp(big.NewInt(base), big.NewInt(int64(n)), nil)
}

// ratPower is base to the power of n, whatever its sign.
func ratPower(base int64, n int) *big.Rat {
	if n < 0 {
		return new(big.Rat).SetFrac(big.NewInt(1), power(base, -n))
	}
	return new(big.Rat).SetInt(power(base, n))
}

// size is an independent reading of a number, without its sign.
func size(x api.Exact) *big.Rat {
	r := new(big.Rat).SetInt(toBig(x.N))
	r.Mul(r, ratPower(2, x.Two))
	return r.Mul(r, ratPower(5, x.Five))
}

func signed(x api.Exact) *big.Rat {
	if x.Neg {
		return new(big.Rat).Neg(size(x))
	}
	return size(x)
}

// words are so many words without a pattern, always the same ones.
func words(length int) api.Nat {
	a, seed := make(api.Nat, length), uint64(length)
	for i := range a {
		seed = seed*6364136223846793005 + 1442695040888963407
		a[i] = seed ^ seed>>29 | 1
	}
	return a
}

// full are so many words of ones alone.
func full(length int) api.Nat {
	a := make(api.Nat, length)
	for i := range a {
		a[i] = most
	}
	return a
}

// crowd are small numbers that stand close to each other: many of them are the same in other words.
func crowd() []api.Exact {
	var list []api.Exact
	for _, n := range []uint64{0, 1, 2, 4, 5, 7, 10, 25, 1000} {
		for _, two := range []int{-3, -1, 0, 1, 2} {
			for _, five := range []int{-2, -1, 0, 1} {
				list = append(list, num(n, two, five))
			}
		}
	}
	return list
}

// wide are numbers up to the edges of what is right.
func wide() []api.Exact {
	var list []api.Exact
	for _, n := range []api.Nat{nil, {1}, {10}, {most}, {0, half}, words(17), words(128), full(128)} {
		for _, two := range []int{-5000, -64, 1, 5000} {
			for _, five := range []int{-5000, -3, 0, 27, 5000} {
				list = append(list, long(n, two, five))
			}
		}
	}
	return list
}

// wrong are numbers that are not right: of these calls need but end.
func wrong() []api.Exact {
	list := []api.Exact{
		long(api.Nat{0}, 0, 0), long(api.Nat{0, 0, 0}, 7, 8), long(api.Nat{1, 0}, 0, 0), long(api.Nat{20, 30, 0, 0}, -9, 9),
		long(full(129), 5000, 5000), long(words(1000), -5000, 5000), long(make(api.Nat, 1000), 1, 1),
		long(append(make(api.Nat, 500), 5), 0, 0),
	}
	ends := []int{minInt, minInt + 1, -1 << 40, -10001, -5001, 0, 5001, 10001, 1 << 40, maxInt - 1, maxInt}
	for _, two := range ends {
		for _, five := range ends {
			if two != 0 || five != 0 {
				list = append(list, num(1, two, five), below(num(0, two, five)), num(50, two, five))
			}
		}
	}
	return list
}

func wantNat(t *testing.T, got, want api.Nat, of ...any) {
	t.Helper()
	if !slices.Equal(got, want) {
		t.Errorf("%v: got %v, want %v", of, got, want)
	}
}

func same(a, b api.Exact) bool {
	return a.Neg == b.Neg && slices.Equal(a.N, b.N) && a.Two == b.Two && a.Five == b.Five
}

// wantNormal asks for words whose last one is not 0.
func wantNormal(t *testing.T, n api.Nat, of ...any) {
	t.Helper()
	if len(n) > 0 && n[len(n)-1] == 0 {
		t.Errorf("%v: %v is not normal", of, n)
	}
}
