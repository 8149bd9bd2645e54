package nat_test

import (
	"encoding/binary"
	"math"
	"math/big"
	"slices"
	"testing"

	"caliper/api"
)

const (
	minInt = math.MinInt
	maxInt = math.MaxInt
	most   = math.MaxUint64
	half   = 1 << 63
)

// toBig is an independent reading of the words: noughts at their end do not matter to it.
func toBig(a api.Nat) *big.Int {
	var text []byte
	for _, w := range slices.Backward(a) {
		text = binary.BigEndian.AppendUint64(text, w)
	}
	return new(big.Int).SetBytes(text)
}

func fromBig(n *big.Int) api.Nat {
	text := make([]byte, (n.BitLen()+63)/64*8)
	n.FillBytes(text)
	var a api.Nat
	for ; len(text) > 0; text = text[:len(text)-8] {
		a = append(a, binary.BigEndian.Uint64(text[len(text)-8:]))
	}
	return a
}

// wantBig asks for just this number, told in normal words.
func wantBig(t *testing.T, got api.Nat, want *big.Int, of ...any) {
	t.Helper()
	if len(got) > 0 && got[len(got)-1] == 0 {
		t.Errorf("%v: %v is not normal", of, got)
	}
	if toBig(got).Cmp(want) != 0 {
		t.Errorf("%v: got %v, want %v", of, toBig(got), want)
	}
}

func wantNat(t *testing.T, got, want api.Nat, of ...any) {
	t.Helper()
	if !slices.Equal(got, want) {
		t.Errorf("%v: got %v, want %v", of, got, want)
	}
}

func power(base, n int64) *big.Int {
	return new(big.Int).Exp(big.NewInt(base), big.NewInt(n), nil)
}

// wordLists are all lists of up to so many of these words, those with noughts at their end among them.
func wordLists(length int, words ...uint64) []api.Nat {
	lists := []api.Nat{nil}
	for from := 0; length > 0; length-- {
		to := len(lists)
		for _, list := range lists[from:to] {
			for _, w := range words {
				lists = append(lists, append(slices.Clip(list), w))
			}
		}
		from = to
	}
	return lists
}

// mixed are words without a pattern, always the same ones for a seed (a linear congruence, folded).
func mixed(seed uint64, length int) api.Nat {
	a := make(api.Nat, length)
	for i := range a {
		seed = seed*6364136223846793005 + 1442695040888963407
		a[i] = seed ^ seed>>29
	}
	return a
}

// owned puts words into a greater array, so that a call that writes behind their end is found out.
func owned(words ...uint64) (a, whole api.Nat) {
	whole = append(slices.Clone(words), 71, 72, 73, 74)
	return whole[:len(words)], whole
}

func wipe(a api.Nat) {
	for i := range a {
		a[i] = 0xDEAD
	}
}
