package qtext_test

import (
	"slices"
	"testing"

	"caliper/api"
	"caliper/qtext"
)

// handed are numbers with their exponents, noughts at the end among them.
var handed = []struct {
	m api.Nat
	e int
}{
	{nil, 5}, {api.Nat{0, 0}, -5}, {api.Nat{1}, 0}, {api.Nat{5, 0}, -2}, {api.Nat{7, 8, 9}, 0}, {api.Nat{7, 8, 9}, 64}, {api.Nat{7, 8, 9}, -64}, {api.Nat{7, 8, 9}, -65}, {api.Nat{0, 0, 3, 0}, -128}, {api.Nat{0, 1 << 63}, -1200}, {api.Nat{1<<64 - 1, 1<<64 - 1}, 1200},
	{make(api.Nat, 40), 1201}, {slices.Repeat(api.Nat{3}, 40), 0},
}

// What is handed in stays, behind its end too; the text stays when the owner writes over it.
func TestHandedIn(t *testing.T) {
	for _, x := range handed {
		owned := append(slices.Clone(x.m), 71, 72, 73, 74)
		kept := slices.Clone(owned)
		m := owned[:len(x.m)]
		first, firstErr := qtext.Text(true, m, x.e)
		if !slices.Equal(owned, kept) {
			t.Errorf("%v: %v", kept, owned)
		}
		told := string([]byte(first))
		for i := range owned {
			owned[i] = 0xDEAD
		}
		again, err := qtext.Text(true, slices.Clone(x.m), x.e)
		if first != told || again != told || err != firstErr {
			t.Errorf("%v, %d: %s, %s, %v", x.m, x.e, first, again, err)
		}
	}
}

// What is answered is the caller's: what is written over it, and behind its end, is in no other answer.
func TestAnswersOwn(t *testing.T) {
	for _, s := range []string{"0", "-0", "1", "1.25", "-18446744073709551616", "340282366920938463463374607431768211457", "1e300", "-0.000000059604644775390625"} {
		for _, e := range []int{-1200, -64, -24, -2, 0, 64, 300} {
			_, first, err := qtext.Parse(s, e)
			_, other, _ := qtext.Parse(s, e)
			kept := slices.Clone(other)
			for i := range first[:cap(first)] {
				first[:cap(first)][i] = 0xDEAD
			}
			_, again, againErr := qtext.Parse(s, e)
			if !slices.Equal(other, kept) || !slices.Equal(again, kept) || err != againErr {
				t.Errorf("%s, %d: %v, %v, want %v", s, e, other, again, kept)
			}
		}
	}
}

// The same calls have the same answers, whatever stood between them.
func TestSameAgain(t *testing.T) {
	type answer struct {
		s       string
		textErr api.Errno
		read    told
	}
	ask := func() (list []answer) {
		for _, e := range append(exponents, noExponents...) {
			for i, s := range []string{"1", "-1.25", "0", "0.1", "1e1000", "1e999", "inf", "", "-8e3", "x"} {
				text, err := qtext.Text(i%2 == 0, handed[i].m, e)
				list = append(list, answer{text, err, parse(t, s, e)})
			}
		}
		return list
	}
	if !slices.Equal(ask(), ask()) {
		t.Error("other answers")
	}
}
