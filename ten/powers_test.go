package ten_test

import (
	"math"
	"math/big"
	"slices"
	"strings"
	"testing"

	"caliper/api"
	"caliper/nat"
	"caliper/ten"
)

func wantText(t *testing.T, n api.Nat, want string, of ...any) {
	t.Helper()
	if len(n) > 0 && n[len(n)-1] == 0 {
		t.Errorf("%v: %v is not normal", of, n)
	}
	if got := nat.Text(n); got != want {
		t.Errorf("%v: got %s, want %s", of, got, want)
	}
}

func TestPow10(t *testing.T) {
	for k := 0; k <= 5000; k += 1 + k/50 {
		wantText(t, ten.Pow10(k), "1"+strings.Repeat("0", k), "Pow10", k)
	}
	for _, k := range []int{4999, 5000} {
		wantText(t, ten.Pow10(k), "1"+strings.Repeat("0", k), "Pow10", k)
	}
}

func TestPow5(t *testing.T) {
	want := big.NewInt(1)
	for k := 0; k <= 5000; k++ {
		if k < 100 || k%250 == 0 || k == 4999 {
			wantText(t, ten.Pow5(k), want.String(), "Pow5", k)
		}
		want.Mul(want, big.NewInt(5))
	}
	wantText(t, ten.Pow5(1), "5", "Pow5", 1)
	wantText(t, ten.Pow5(27), "7450580596923828125", "Pow5", 27)
}

// Each power is the one before it, once more.
func TestPowersAllOfThem(t *testing.T) {
	for k := 1; k <= 5000; k++ {
		if nat.Cmp(ten.Pow10(k), nat.Mul(ten.Pow10(k-1), nat.Of(10))) != 0 {
			t.Fatalf("Pow10 of %d", k)
		}
		if nat.Cmp(ten.Pow5(k), nat.Mul(ten.Pow5(k-1), nat.Of(5))) != 0 {
			t.Fatalf("Pow5 of %d", k)
		}
	}
}

// Below 0 is 0, above 5000 is 5000.
func TestPowersOutside(t *testing.T) {
	five := new(big.Int).Exp(big.NewInt(5), big.NewInt(5000), nil).String()
	for _, k := range []int{-1, -2, -400, -5000, -5001, math.MinInt32, math.MinInt} {
		wantText(t, ten.Pow10(k), "1", "Pow10", k)
		wantText(t, ten.Pow5(k), "1", "Pow5", k)
	}
	for _, k := range []int{5001, 5002, 9999, 10000, 10001, math.MaxInt32, math.MaxInt} {
		wantText(t, ten.Pow10(k), "1"+strings.Repeat("0", 5000), "Pow10", k)
		wantText(t, ten.Pow5(k), five, "Pow5", k)
	}
}

// An answer is the caller's: what is written over it is in no other answer.
func TestPowersOwn(t *testing.T) {
	for _, call := range []func(k int) api.Nat{ten.Pow10, ten.Pow5} {
		for _, k := range []int{-1, 0, 1, 19, 20, 400, 5000, 5001} {
			first := call(k)
			kept := slices.Clone(first)
			other := call(k)
			clear(first[:cap(first)])
			if again := call(k); !slices.Equal(other, kept) || !slices.Equal(again, kept) {
				t.Errorf("%d: %v, %v, want %v", k, other, again, kept)
			}
		}
	}
	if !ten.Check() {
		t.Errorf("Check, after powers were written over")
	}
}

// powersOf are base to the power of 0, 1, 2 and so on, by math/big.
func powersOf(base int64, length int) []*big.Int {
	list := []*big.Int{big.NewInt(1)}
	for len(list) < length {
		list = append(list, new(big.Int).Mul(list[len(list)-1], big.NewInt(base)))
	}
	return list
}

// powerAtMost holds b to the power of k against a to the power of n, both of them whichever side of 0.
func powerAtMost(b []*big.Int, k int, a []*big.Int, n int) bool {
	left := new(big.Int).Mul(b[max(k, 0)], a[max(-n, 0)])
	right := new(big.Int).Mul(a[max(n, 0)], b[max(-k, 0)])
	return left.Cmp(right) <= 0
}

// wantLogs asks of each n for the greatest k with b to the power of k at most a to the power of n.
func wantLogs(t *testing.T, log func(n int) int, b, a []*big.Int) {
	t.Helper()
	for n := -5000; n <= 5000; n++ {
		k := log(n)
		if max(k, -k)+1 >= len(b) || !powerAtMost(b, k, a, n) || powerAtMost(b, k+1, a, n) {
			t.Errorf("%d: %d", n, k)
		}
	}
}

func TestLogarithmsAllOfThem(t *testing.T) {
	twos, tens := powersOf(2, 17000), powersOf(10, 5001)
	t.Run("Log10Of2", func(t *testing.T) { wantLogs(t, ten.Log10Of2, tens, twos) })
	t.Run("Log2Of10", func(t *testing.T) { wantLogs(t, ten.Log2Of10, twos, tens) })
}

func TestLogarithmsTable(t *testing.T) {
	for n, want := range map[int][2]int{
		0: {0, 0}, 1: {0, 3}, 3: {0, 9}, 4: {1, 13}, -1: {-1, -4}, -3: {-1, -10}, -4: {-2, -14}, 9: {2, 29}, 10: {3, 33},
		-9: {-3, -30}, -10: {-4, -34}, 93: {27, 308}, 94: {28, 312}, 4999: {1504, 16606}, 5000: {1505, 16609}, -5000: {-1506, -16610},
	} {
		if got := [2]int{ten.Log10Of2(n), ten.Log2Of10(n)}; got != want {
			t.Errorf("%d: %v, want %v", n, got, want)
		}
	}
}

// Beyond -5000 and 5000 the nearest of these counts.
func TestLogarithmsOutside(t *testing.T) {
	for _, n := range []int{5001, 5002, 9999, 1 << 30, math.MaxInt32, math.MaxInt - 1, math.MaxInt} {
		if up, down := ten.Log10Of2(n), ten.Log10Of2(-n); up != 1505 || down != -1506 {
			t.Errorf("Log10Of2 of %d, and below 0: %d, %d", n, up, down)
		}
		if up, down := ten.Log2Of10(n), ten.Log2Of10(-n); up != 16609 || down != -16610 {
			t.Errorf("Log2Of10 of %d, and below 0: %d, %d", n, up, down)
		}
	}
	if a, b := ten.Log10Of2(math.MinInt), ten.Log2Of10(math.MinInt); a != -1506 || b != -16610 {
		t.Errorf("the least: %d, %d", a, b)
	}
}
