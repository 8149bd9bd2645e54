package nat_test

import (
	"math/big"
	"testing"

	"caliper/api"
	"caliper/nat"
)

// samples are numbers at whose edges carries go far, and some without a pattern.
func samples() []api.Nat {
	lists := wordLists(3, 0, 1, half, most)
	for i := range 12 {
		lists = append(lists, mixed(uint64(i), i+1))
	}
	return append(lists, api.Nat{half - 1, 1<<32 - 1}, api.Nat{most - 1, most, most, most, 0, 0})
}

func TestAddSubMul(t *testing.T) {
	lists := samples()
	for _, a := range lists {
		for _, b := range lists {
			m, n := toBig(a), toBig(b)
			wantBig(t, nat.Add(a, b), new(big.Int).Add(m, n), "Add", a, b)
			wantBig(t, nat.Mul(a, b), new(big.Int).Mul(m, n), "Mul", a, b)
			rest, ok := nat.Sub(a, b)
			if ok != (m.Cmp(n) >= 0) {
				t.Fatalf("Sub of %v, %v: %v", a, b, ok)
			}
			if ok {
				wantBig(t, rest, new(big.Int).Sub(m, n), "Sub", a, b)
			} else {
				wantNat(t, rest, nil, "Sub", a, b)
			}
		}
	}
}

func TestSubBelowNought(t *testing.T) {
	for _, x := range [][2]api.Nat{
		{nil, {1}}, {{0, 0}, {1}}, {{4}, {5}}, {{most}, {0, 1}}, {{9, 1}, {0, 2}}, {{1, 7}, {2, 7, 0}},
	} {
		if rest, ok := nat.Sub(x[0], x[1]); ok || len(rest) != 0 {
			t.Errorf("Sub of %v: %v, %v", x, rest, ok)
		}
	}
	for _, a := range []api.Nat{nil, {0}, {5}, {5, 6, 0}} {
		if rest, ok := nat.Sub(a, a); !ok || len(rest) != 0 {
			t.Errorf("Sub of %v twice: %v, %v", a, rest, ok)
		}
	}
}

func wantDiv(t *testing.T, a, b api.Nat) {
	t.Helper()
	often, left, ok := nat.Div(a, b)
	m, n := toBig(a), toBig(b)
	if n.Sign() == 0 {
		if ok || len(often) != 0 || len(left) != 0 {
			t.Errorf("Div of %v, %v: %v, %v, %v", a, b, often, left, ok)
		}
		return
	}
	q, r := new(big.Int).QuoRem(m, n, new(big.Int))
	if !ok {
		t.Errorf("Div of %v, %v: false", a, b)
	}
	wantBig(t, often, q, "Div", a, b)
	wantBig(t, left, r, "what Div leaves", a, b)
	wantBig(t, nat.Add(nat.Mul(often, b), left), m, "Div and back", a, b)
}

func TestDiv(t *testing.T) {
	below := wordLists(3, 0, 1, half-1, half, most)
	for _, a := range wordLists(4, 0, 1, half-1, half, most) {
		for _, b := range below {
			wantDiv(t, a, b)
		}
	}
	for i := range 20 {
		for j := range 14 {
			wantDiv(t, mixed(uint64(i), i), mixed(uint64(100+j), j))
		}
	}
}

// Here a digit that is guessed from the highest words alone is one or two too great.
func TestDivHardDigits(t *testing.T) {
	for _, x := range [][2]api.Nat{
		{{0, 0, half, half - 1}, {1, 0, half}},
		{{3, 0, half}, {1, 0, half >> 2}},
		{{0, most - 1, half}, {most, half}},
		{{0, 0, 0, half}, {most, 0, half}},
		{{0, most, most - 1, most - 1}, {most, most, most}},
		{{most, most, most - 1}, {most, most}},
		{{0, 0, 1}, {most, most}},
		{{0, 0, 1}, {most, 1}},
		{{most, most - 1, most}, {most, most}},
	} {
		wantDiv(t, x[0], x[1])
		product := nat.Mul(x[0], x[1])
		wantDiv(t, product, x[0])
		wantDiv(t, product, x[1])
		below, _ := nat.Sub(product, nat.Of(1))
		wantDiv(t, below, x[0])
		wantDiv(t, below, x[1])
	}
}

func TestDivByNought(t *testing.T) {
	for _, a := range []api.Nat{nil, {0}, {1}, {1, 2, 3}} {
		for _, b := range []api.Nat{nil, {}, {0}, {0, 0, 0}} {
			wantDiv(t, a, b)
		}
	}
}

// shiftOf is how far a shift goes that n asks for.
func shiftOf(n int) uint { return uint(max(0, min(n, 1<<17))) }

func TestShifts(t *testing.T) {
	counts := []int{minInt, -64, -1, 0, 1, 2, 31, 63, 64, 65, 127, 128, 129, 191, 192, 193, 1000}
	for _, a := range samples() {
		for _, n := range counts {
			wantBig(t, nat.Shl(a, n), new(big.Int).Lsh(toBig(a), shiftOf(n)), "Shl", a, n)
			wantBig(t, nat.Shr(a, n), new(big.Int).Rsh(toBig(a), shiftOf(n)), "Shr", a, n)
		}
	}
}

func TestShiftsFar(t *testing.T) {
	long := mixed(5, 1<<17/64+3)
	for _, n := range []int{1<<17 - 1, 1 << 17, 1<<17 + 1, 1<<17 + 64, 1 << 40, maxInt} {
		for _, a := range []api.Nat{nil, {0}, {5}, {5, 1, 0}, long} {
			up, down := nat.Shl(a, n), nat.Shr(a, n)
			if nat.Cmp(up, fromBig(new(big.Int).Lsh(toBig(a), shiftOf(n)))) != 0 {
				t.Errorf("Shl of %d words by %d: %d bits", len(a), n, nat.Bits(up))
			}
			if nat.Cmp(down, fromBig(new(big.Int).Rsh(toBig(a), shiftOf(n)))) != 0 {
				t.Errorf("Shr of %d words by %d: %d bits", len(a), n, nat.Bits(down))
			}
		}
	}
	wantNat(t, nat.Shr(api.Nat{7}, 1), api.Nat{3}, "rounded down")
	wantNat(t, nat.Shr(api.Nat{most, 1}, 64), api.Nat{1}, "rounded down")
}

func TestPow(t *testing.T) {
	for _, base := range []uint64{0, 1, 2, 3, 5, 7, 10, 1 << 32, half, most} {
		n := new(big.Int).SetUint64(base)
		want := big.NewInt(1)
		for i := range 70 {
			wantBig(t, nat.Pow(base, i), want, "Pow", base, i)
			want = new(big.Int).Mul(want, n)
		}
		for _, i := range []int{-1, -5, minInt} {
			wantNat(t, nat.Pow(base, i), api.Nat{1}, "Pow", base, i)
		}
	}
}

func TestPowFar(t *testing.T) {
	for _, base := range []int64{0, 1, 2, 3, 5, 10} {
		for _, n := range []int{4999, 5000, 5001, 9999, 10000, 10001, 20000, maxInt} {
			got := toBig(nat.Pow(uint64(base), n))
			if got.Cmp(power(base, int64(min(n, 10000)))) != 0 {
				t.Errorf("Pow of %d, %d", base, n)
			}
		}
	}
	if got := nat.Pow(most, 10000); nat.Bits(got) != 640000 {
		t.Errorf("the greatest Pow: %d bits", nat.Bits(got))
	}
}
