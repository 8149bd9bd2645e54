package exact_test

import (
	"math/big"
	"testing"

	"caliper/api"
	"caliper/exact"
)

// wantCmp holds two numbers, with all their signs, against each other.
func wantCmp(t *testing.T, a, b api.Exact, want int) {
	t.Helper()
	for _, x := range []api.Exact{a, below(a)} {
		for _, y := range []api.Exact{b, below(b)} {
			if got := exact.Cmp(x, y); got != want {
				t.Fatalf("Cmp of %v, %v: %d", x, y, got)
			}
		}
	}
}

func wantCmpSigned(t *testing.T, a, b api.Exact, want int) {
	t.Helper()
	if got := exact.CmpSigned(a, b); got != want {
		t.Fatalf("CmpSigned of %v, %v: %d", a, b, got)
	}
}

func TestCmp(t *testing.T) {
	list := crowd()
	sizes := sizesOf(list)
	for i, a := range list {
		for j, b := range list {
			wantCmp(t, a, b, sizes[i].Cmp(sizes[j]))
		}
	}
}

func TestCmpWide(t *testing.T) {
	list := wide()
	sizes := sizesOf(list)
	for i, a := range list {
		for j, b := range list {
			if got, want := exact.Cmp(a, b), sizes[i].Cmp(sizes[j]); got != want {
				t.Fatalf("Cmp of %v, %v: %d", a, b, got)
			}
		}
	}
}

func sizesOf(list []api.Exact) []*big.Rat {
	sizes := make([]*big.Rat, len(list))
	for i, x := range list {
		sizes[i] = size(x)
	}
	return sizes
}

func TestCmpSigned(t *testing.T) {
	var list []api.Exact
	for _, x := range crowd() {
		list = append(list, x, below(x))
	}
	for _, x := range []api.Exact{num(1, 5000, 5000), num(0, 5000, 5000), num(1, -5000, -5000), long(full(128), 5000, 5000)} {
		list = append(list, x, below(x))
	}
	values := make([]*big.Rat, len(list))
	for i, x := range list {
		values[i] = signed(x)
	}
	for i, a := range list {
		for j, b := range list {
			wantCmpSigned(t, a, b, values[i].Cmp(values[j]))
		}
	}
}

func TestCmpOfNoughts(t *testing.T) {
	noughts := []api.Exact{{}, {Neg: true}, num(0, 5000, -5000), below(num(0, -5000, 5000))}
	for _, a := range noughts {
		for _, b := range noughts {
			wantCmp(t, a, b, 0)
			wantCmpSigned(t, a, b, 0)
		}
		for _, x := range []api.Exact{num(1, -5000, -5000), num(1, 0, 0), long(full(128), 5000, 5000)} {
			wantCmp(t, a, x, -1)
			wantCmp(t, x, a, 1)
			wantCmpSigned(t, a, x, -1)
			wantCmpSigned(t, x, a, 1)
			wantCmpSigned(t, a, below(x), 1)
			wantCmpSigned(t, below(x), a, -1)
		}
	}
}

// A number of many bits stands between two that differ just in their last one.
func TestCmpClose(t *testing.T) {
	for _, x := range []api.Exact{
		num(1, 5000, -2000), num(7, 5000, -2000), num(1, -5000, 2500), num(1, -3000, 1400), num(most, 5000, -2150), long(words(60), -5000, 2000),
	} {
		exactly := size(x)
		whole := new(big.Int).Quo(exactly.Num(), exactly.Denom())
		next := new(big.Int).Add(whole, big.NewInt(1))
		wantCmp(t, x, long(fromBig(whole), 0, 0), 1)
		wantCmp(t, x, long(fromBig(next), 0, 0), -1)
		wantCmp(t, long(fromBig(next), 0, 0), x, 1)
	}
}

// The greatest powers that two right numbers can need to be held against each other.
func TestCmpFar(t *testing.T) {
	for _, x := range []struct {
		a, b api.Exact
		want int
	}{
		{num(1, 5000, -5000), num(1, -5000, 5000), -1},
		{num(1, 5000, 5000), num(1, -5000, -5000), 1},
		{num(1, 5000, 5000), long(full(128), -5000, -5000), 1},
		{num(1, 5000, -5000), num(1, -5000, -5000), 1},
		{num(1, -5000, 5000), num(1, -5000, -5000), 1},
		{num(1, 5000, 5000), num(1, 5000, 5000), 0},
		{num(1, -5000, 0), num(1, -4999, 0), -1},
		{num(1, 0, 5000), num(1, 0, 4999), 1},
		{long(full(128), 0, 0), num(1, 5000, 0), 1},
		{long(full(127), 0, 0), long(append(make(api.Nat, 127), 1), 0, 0), -1},
	} {
		wantCmp(t, x.a, x.b, x.want)
		wantCmp(t, x.b, x.a, -x.want)
		wantCmpSigned(t, x.a, x.b, x.want)
		wantCmpSigned(t, below(x.a), below(x.b), -x.want)
	}
}
