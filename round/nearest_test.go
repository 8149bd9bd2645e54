package round_test

import (
	"testing"

	"caliper/api"
	"caliper/forms"
	"caliper/round"
)

func wantNearest(t *testing.T, form int, neg bool, x api.Exact, want uint64, wantOver bool) {
	t.Helper()
	if key, over, err := round.Nearest(form, neg, x); key != want || over != wantOver || err != api.OK {
		t.Errorf("Nearest of %d, %v, %v: %X, %v, %v, want %X, %v", form, neg, x, key, over, err, want, wantOver)
	}
}

func wantNoNearest(t *testing.T, form int, neg bool, x api.Exact, want api.Errno) {
	t.Helper()
	if key, over, err := round.Nearest(form, neg, x); key != 0 || over || err != want {
		t.Errorf("Nearest of %d, %v, %v: %X, %v, %v, want %v", form, neg, x, key, over, err, want)
	}
}

func TestNearestTable(t *testing.T) {
	for _, x := range []struct {
		form int
		neg  bool
		x    api.Exact
		key  uint64
		over bool
	}{
		{api.E4M3, false, num(464, 0, 0), 0x7E, false}, {api.E4M3, true, near(29, 4, 1), 0x7E, true}, {api.E4M3, false, num(448, 0, 0), 0x7E, false}, {api.E4M3, false, num(1, -10, 0), 0, false},
		{api.E5M2, false, near(15, 12, -1), 0x7B, false}, {api.E5M2, true, num(15, 12, 0), 0x7B, true}, {api.E2M1, false, num(7, 0, 0), 7, true}, {api.E2M1, false, num(5, -1, 0), 4, false}, {api.E2M1, false, num(7, -1, 0), 6, false},
		{api.Int8, true, num(9, 0, 0), 128, true}, {api.Int8, false, num(9, 0, 0), 127, true}, {api.Int8, true, num(257, -7, 0), 128, false}, {api.Int8, true, near(257, -7, 1), 128, true}, {api.Int8, true, num(255, -7, 0), 128, false},
		{api.Int8, false, num(255, -7, 0), 127, true}, {api.Int8, false, near(255, -7, -1), 127, false},
		{api.E8M0, false, num(1, -5000, -5000), 0, false}, {api.E8M0, false, num(3, 126, 0), 0xFE, false}, {api.E8M0, false, near(3, 126, 1), 0xFE, true}, {api.E8M0, false, num(3, -1, 0), 128, false}, {api.E8M0, false, num(3, -2, 0), 126, false},
		{api.Posit8, false, num(1, -28, 0), 1, false}, {api.Posit8, true, num(1, -5000, -5000), 1, false}, {api.Posit8, false, num(1, -22, 0), 2, false}, {api.Posit8, false, near(1, -22, -1), 1, false},
		{api.Posit8, false, near(1, 28, -1), 0x7F, false}, {api.Posit8, false, num(1, 28, 0), 0x7F, true}, {api.Posit64, true, num(1, 252, 0), 1<<63 - 1, true}, {api.Posit64, true, near(1, 252, -1), 1<<63 - 1, false},
		{api.Binary64, false, num(1, -1075, 0), 0, false}, {api.Binary64, false, num(3, -1076, 0), 1, false}, {api.Binary64, true, num(1, 1024, 0), 0x7FEFFFFFFFFFFFFF, true},
	} {
		// Neg of the number does not matter.
		wantNearest(t, x.form, x.neg, x.x, x.key, x.over)
		wantNearest(t, x.form, x.neg, below(x.x), x.key, x.over)
	}
}

// Nought is of key 0, in posits, too.
func TestNearestOfNoughts(t *testing.T) {
	for _, form := range forms.All() {
		for _, neg := range signs(formOf(form)) {
			for _, x := range []api.Exact{{}, {Neg: true}, num(0, 5000, 5000), num(0, -5000, -5000)} {
				wantNearest(t, form, neg, x, 0, false)
			}
		}
	}
}

// That a number is not right is told first, ahead of what is wrong with the form.
func TestNearestOfWrongNumbers(t *testing.T) {
	for _, form := range append(forms.All(), noForms...) {
		for _, neg := range []bool{false, true} {
			for _, x := range wrong() {
				wantNoNearest(t, form, neg, x, api.ErrArg)
				wantNoNearest(t, form, neg, below(x), api.ErrArg)
			}
		}
	}
}

func TestNearestOfNoForm(t *testing.T) {
	for _, form := range noForms {
		for _, neg := range []bool{false, true} {
			for _, x := range []api.Exact{{}, num(1, 0, 0), num(1, 5000, 5000), below(num(1, -5000, 0))} {
				wantNoNearest(t, form, neg, x, api.ErrForm)
			}
		}
	}
}

func TestNearestOfScaleBelow(t *testing.T) {
	for _, x := range []api.Exact{{}, num(9, 0, 0), below(num(9, 0, 0)), num(1, 5000, 5000), num(1, -5000, -5000)} {
		wantNoNearest(t, api.E8M0, true, x, api.ErrNone)
	}
}
