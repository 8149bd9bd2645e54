package round_test

import (
	"slices"
	"testing"

	"caliper/api"
	"caliper/forms"
	"caliper/round"
)

// What is handed in stays, behind its end too.
func TestHandedInStays(t *testing.T) {
	for _, n := range []api.Nat{{}, {1}, {7, 8}, {10, 0, 1}, full(128), {5, 0}} {
		whole := append(slices.Clone(n), 71, 72, 73)
		kept := slices.Clone(whole)
		for _, form := range forms.All() {
			x := long(whole[:len(n)], -70, 3)
			for _, x.Neg = range []bool{false, true} {
				round.Nearest(form, x.Neg, x)
				round.Round(form, api.Special, x)
				round.Round(form, api.Saturate, x)
			}
		}
		if !slices.Equal(whole, kept) {
			t.Errorf("%v: %v", kept, whole)
		}
	}
}

// What is answered is the caller's: what is written over it is in no other answer.
func TestAnswersOwn(t *testing.T) {
	for _, form := range forms.All() {
		for _, p := range []uint64{1, 3, 5, formOf(form).Top} {
			low, high, _, _ := round.Limits(form, p)
			keptLow, keptHigh := long(slices.Clone(low.N), low.Two, 0), long(slices.Clone(high.N), high.Two, 0)
			clear(low.N[:cap(low.N)])
			if !same(high, keptHigh) {
				t.Errorf("%d, %X: the limits are one another", form, p)
			}
			clear(high.N[:cap(high.N)])
			low, high, _, _ = round.Limits(form, p)
			if !same(low, keptLow) || !same(high, keptHigh) {
				t.Errorf("%d, %X: %v, %v", form, p, low, high)
			}
		}
	}
}

// The same calls have the same answers, whatever stood between them.
func TestSameAgain(t *testing.T) {
	type answer struct {
		key, p uint64
		over   bool
	}
	ask := func() (list []answer) {
		for _, form := range forms.All() {
			for _, x := range spread() {
				key, over, _ := round.Nearest(form, false, x)
				p, _ := round.Round(form, api.Special, x)
				list = append(list, answer{key, p, over})
			}
		}
		return list
	}
	if !slices.Equal(ask(), ask()) {
		t.Error("other answers")
	}
}
