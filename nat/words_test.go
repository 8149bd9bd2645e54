package nat_test

import (
	"testing"

	"caliper/api"
	"caliper/nat"
)

func TestOf(t *testing.T) {
	wantNat(t, nat.Of(0), nil, "Of 0")
	for _, n := range []uint64{1, 2, 10, 1<<32 - 1, 1 << 32, half - 1, half, most - 1, most} {
		wantNat(t, nat.Of(n), api.Nat{n}, "Of", n)
	}
}

func TestNorm(t *testing.T) {
	for _, x := range []struct{ words, want []uint64 }{
		{nil, nil},
		{[]uint64{}, nil},
		{[]uint64{0}, nil},
		{[]uint64{0, 0, 0}, nil},
		{[]uint64{7}, []uint64{7}},
		{[]uint64{5, 0}, []uint64{5}},
		{[]uint64{5, 0, 0, 0}, []uint64{5}},
		{[]uint64{0, 1}, []uint64{0, 1}},
		{[]uint64{0, 0, 1, 0}, []uint64{0, 0, 1}},
		{[]uint64{1, 0, 2, 0}, []uint64{1, 0, 2}},
		{[]uint64{most, most, half}, []uint64{most, most, half}},
	} {
		wantNat(t, nat.Norm(x.words...), x.want, "Norm", x.words)
	}
	wantNat(t, nat.Norm(), nil, "Norm of nothing")
	wantNat(t, nat.Norm(3, 2, 1), api.Nat{3, 2, 1}, "Norm 3 2 1")
	if s := nat.Text(nat.Norm(0, 1)); s != "18446744073709551616" {
		t.Errorf("Norm(0, 1): %s", s)
	}
	if s := nat.Text(nat.Norm(5, 0)); s != "5" {
		t.Errorf("Norm(5, 0): %s", s)
	}
}

func TestWord(t *testing.T) {
	for _, x := range []struct {
		a    api.Nat
		word uint64
		only bool
	}{
		{nil, 0, true},
		{api.Nat{}, 0, true},
		{api.Nat{0}, 0, true},
		{api.Nat{0, 0, 0}, 0, true},
		{api.Nat{1}, 1, true},
		{api.Nat{most}, most, true},
		{api.Nat{5, 0}, 5, true},
		{api.Nat{5, 0, 0}, 5, true},
		{api.Nat{5, 1}, 5, false},
		{api.Nat{0, 1}, 0, false},
		{api.Nat{0, 0, 1, 0}, 0, false},
		{api.Nat{9, 0, 1}, 9, false},
	} {
		if word, only := nat.Word(x.a); word != x.word || only != x.only {
			t.Errorf("Word of %v: %d, %v", x.a, word, only)
		}
	}
}

func TestBits(t *testing.T) {
	for _, a := range []api.Nat{nil, {}, {0}, {0, 0}} {
		if got := nat.Bits(a); got != 0 {
			t.Errorf("Bits of %v: %d", a, got)
		}
	}
	for i := range 200 {
		a := make(api.Nat, 5)
		a[i/64] = 1 << (i % 64)
		if got := nat.Bits(a); got != i+1 {
			t.Errorf("Bits of 2 to the power of %d: %d", i, got)
		}
	}
	for _, a := range wordLists(3, 0, 1, 6, half, most) {
		if got, want := nat.Bits(a), toBig(a).BitLen(); got != want {
			t.Errorf("Bits of %v: %d, want %d", a, got, want)
		}
	}
}

func TestBit(t *testing.T) {
	lists := append(wordLists(3, 0, 1, half, most-1), mixed(1, 4))
	for _, a := range lists {
		n := toBig(a)
		for i := range 64*len(a) + 70 {
			if got, want := nat.Bit(a, i), n.Bit(i) == 1; got != want {
				t.Fatalf("Bit %d of %v: %v", i, a, got)
			}
		}
		for _, i := range []int{-1, -2, -63, -64, -65, minInt, 1 << 17, 1 << 40, maxInt} {
			if nat.Bit(a, i) {
				t.Fatalf("Bit %d of %v", i, a)
			}
		}
	}
}

func TestEven(t *testing.T) {
	for _, a := range []api.Nat{nil, {}, {0}, {0, 0}, {2}, {half}, {most - 1}, {0, 1}, {4, 3}, {0, most, 0}} {
		if !nat.Even(a) {
			t.Errorf("%v is even", a)
		}
	}
	for _, a := range []api.Nat{{1}, {3}, {most}, {1, 0}, {1, 2}, {half + 1, 0, 4}} {
		if nat.Even(a) {
			t.Errorf("%v is not even", a)
		}
	}
}

func TestCmp(t *testing.T) {
	for _, x := range []struct {
		a, b api.Nat
		want int
	}{
		{nil, nil, 0},
		{nil, api.Nat{0, 0}, 0},
		{nil, api.Nat{1}, -1},
		{api.Nat{0}, api.Nat{0, 1}, -1},
		{api.Nat{5, 0, 0}, api.Nat{5}, 0},
		{api.Nat{5, 0, 0}, api.Nat{6}, -1},
		{api.Nat{most}, api.Nat{0, 1}, -1},
		{api.Nat{1}, api.Nat{most}, -1},
		{api.Nat{9, 1}, api.Nat{1, 2}, -1},
		{api.Nat{1, 2}, api.Nat{2, 2}, -1},
		{api.Nat{1, 2, 3}, api.Nat{1, 2, 3, 0}, 0},
	} {
		if got := nat.Cmp(x.a, x.b); got != x.want {
			t.Errorf("Cmp of %v, %v: %d", x.a, x.b, got)
		}
		if got := nat.Cmp(x.b, x.a); got != -x.want {
			t.Errorf("Cmp of %v, %v: %d", x.b, x.a, got)
		}
	}
	lists := wordLists(3, 0, 1, half, most)
	for _, a := range lists {
		for _, b := range lists {
			if got, want := nat.Cmp(a, b), toBig(a).Cmp(toBig(b)); got != want {
				t.Fatalf("Cmp of %v, %v: %d", a, b, got)
			}
		}
	}
}
