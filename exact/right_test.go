package exact_test

import (
	"math/big"
	"testing"

	"caliper/api"
	"caliper/exact"
	"caliper/nat"
)

func TestRight(t *testing.T) {
	for _, x := range append(crowd(), wide()...) {
		if !exact.Right(x) || !exact.Right(below(x)) {
			t.Errorf("not right: %v", x)
		}
	}
	for _, x := range []api.Exact{
		{}, {Neg: true}, {N: api.Nat{}}, num(0, 5000, -5000), below(num(0, -5000, 5000)),
		long(append(make(api.Nat, 127), 1), 0, 0),
	} {
		if !exact.Right(x) {
			t.Errorf("not right: %v", x)
		}
	}
	for _, x := range wrong() {
		if exact.Right(x) || exact.Right(below(x)) {
			t.Errorf("right: %v", x)
		}
	}
	for _, k := range []int{minInt, -5002, -5001, 5001, 5002, maxInt} {
		for _, n := range []uint64{0, 1} {
			if exact.Right(num(n, k, 0)) || exact.Right(num(n, 0, k)) || exact.Right(num(n, k, k)) {
				t.Errorf("right with the power %d", k)
			}
		}
	}
	for _, n := range []api.Nat{{0}, {1, 0}, make(api.Nat, 128), append(full(127), 0), append(full(128), 0), append(make(api.Nat, 128), 1)} {
		if exact.Right(long(n, 0, 0)) {
			t.Errorf("right with %d words: %v", len(n), n)
		}
	}
}

func TestOf(t *testing.T) {
	for _, x := range []struct {
		v    api.Value
		want api.Exact
	}{
		{api.Value{Class: api.Zero}, api.Exact{}},
		{api.Value{Class: api.Zero, Neg: true}, api.Exact{Neg: true}},
		{api.Value{Class: api.Zero, M: 3, E: 4}, api.Exact{}},
		{api.Value{Class: api.Zero, Neg: true, M: 3, E: maxInt}, api.Exact{Neg: true}},
		{api.Value{Class: api.Finite, M: 1}, num(1, 0, 0)},
		{api.Value{Class: api.Finite, Neg: true, M: 29, E: 4}, below(num(29, 4, 0))},
		{api.Value{Class: api.Finite, M: most, E: -1074}, num(most, -1074, 0)},
		{api.Value{Class: api.Finite, M: 6, E: 1}, num(6, 1, 0)},
		{api.Value{Class: api.Finite, M: 1, E: 5000}, num(1, 5000, 0)},
		{api.Value{Class: api.Finite, Neg: true, M: 1, E: -5000}, below(num(1, -5000, 0))},
	} {
		if got, ok := exact.Of(x.v); !ok || !same(got, x.want) || !exact.Right(got) {
			t.Errorf("Of %v: %v, %v", x.v, got, ok)
		}
	}
}

func TestOfNone(t *testing.T) {
	for _, class := range []int{minInt, -1, 0, api.Inf, api.NaN, 5, maxInt} {
		for _, v := range []api.Value{{}, {Neg: true}, {Neg: true, M: 5, E: 6}} {
			v.Class = class
			if got, ok := exact.Of(v); ok || !same(got, api.Exact{}) {
				t.Errorf("Of %v: %v, %v", v, got, ok)
			}
		}
	}
	for _, e := range []int{minInt, -5002, -5001, 5001, 5002, maxInt} {
		if got, ok := exact.Of(api.Value{Class: api.Finite, Neg: true, M: 3, E: e}); ok || !same(got, api.Exact{}) {
			t.Errorf("Of a power of %d: %v, %v", e, got, ok)
		}
	}
}

func TestDec(t *testing.T) {
	for _, d := range []api.Nat{nil, {0}, {0, 0, 0}, {7}, {125, 0}, {0, 1}, {10, 20, 0, 0}, words(128), append(full(128), 0, 0)} {
		for _, k := range []int{-5000, -4999, -2, 0, 1, 4999, 5000} {
			for _, neg := range []bool{false, true} {
				got, ok := exact.Dec(neg, d, k)
				if want := (api.Exact{Neg: neg, N: nat.Norm(d...), Two: k, Five: k}); !ok || !same(got, want) {
					t.Errorf("Dec of %v, %d: %v, %v", d, k, got, ok)
				}
				want := new(big.Rat).Mul(new(big.Rat).SetInt(toBig(d)), ratPower(10, k))
				if !exact.Right(got) || size(got).Cmp(want) != 0 {
					t.Errorf("Dec of %v, %d: %v", d, k, got)
				}
			}
		}
	}
}

func TestDecNone(t *testing.T) {
	wantNone := func(d api.Nat, k int) {
		for _, neg := range []bool{false, true} {
			if got, ok := exact.Dec(neg, d, k); ok || !same(got, api.Exact{}) {
				t.Errorf("Dec of %d words, %d: %v, %v", len(d), k, got, ok)
			}
		}
	}
	for _, k := range []int{minInt, -5002, -5001, 5001, 5002, maxInt} {
		wantNone(api.Nat{7}, k)
		wantNone(nil, k)
	}
	wantNone(full(129), 0)
	wantNone(append(make(api.Nat, 128), 1), 0)
	wantNone(append(words(129), 0), -3)
	wantNone(words(1000), 5001)
}
