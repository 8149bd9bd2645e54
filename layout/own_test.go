package layout_test

import (
	"slices"
	"testing"

	"caliper/api"
	"caliper/layout"
)

// What is handed in stays, behind its end too.
func TestArgumentsStay(t *testing.T) {
	for _, words := range []api.Nat{{}, {0}, {7}, {10}, {5, 0}, {3, 2}, {1, 2, 3, 0, 0}, append(make(api.Nat, 102), 1), make(api.Nat, 200)} {
		for _, k := range []int{0, 1, -1, -9, 30, 5000, -5001} {
			whole := append(slices.Clone(words), 71, 72, 73)
			kept := slices.Clone(whole)
			d := api.Digits{D: whole[:len(words)], K: k}
			layout.Right(d)
			layout.Layout(d)
			if !slices.Equal(whole, kept) {
				t.Errorf("%v became %v", kept, whole)
			}
		}
	}
}

// A text stays what it is when the owner of the digits writes over them.
func TestTextIsNotKept(t *testing.T) {
	d := digits(true, "12345678901234567890123", -3)
	s := layout.Layout(d)
	clear(d.D)
	if s != "-12345678901234567890.123" {
		t.Error(s)
	}
}

// What is answered is the caller's: what is written over it is in no other answer.
func TestAnswersOwn(t *testing.T) {
	for _, s := range []string{"1", "-7000", "1.25", "1e-7", nines(21), "9." + nines(1999) + "e21"} {
		d, _ := layout.Unlay(s)
		kept := slices.Clone(d.D)
		clear(d.D[:cap(d.D)])
		if again, _ := layout.Unlay(s); len(kept) == 0 || !slices.Equal(again.D, kept) {
			t.Errorf("%s: %v, not %v", s, again.D, kept)
		}
	}
}

// The same calls have the same answers, whatever stood between them.
func TestSameAgain(t *testing.T) {
	type answer struct {
		right bool
		text  string
		back  told
		err   api.Errno
	}
	ask := func() (list []answer) {
		for n := range 120 {
			for k := -30; k <= 30; k++ {
				d := api.Digits{Neg: k%2 == 0, D: api.Nat{uint64(n)}, K: k}
				s := layout.Layout(d)
				back, err := layout.Unlay(s)
				list = append(list, answer{layout.Right(d), s, tell(back), err})
			}
			layout.Unlay("1e" + noughts(n))
		}
		return list
	}
	if !slices.Equal(ask(), ask()) {
		t.Error("other answers")
	}
}
