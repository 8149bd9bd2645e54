package forms_test

import (
	"math"
	"slices"
	"testing"

	"caliper/api"
	"caliper/forms"
)

// rows are what the document's table says, each form at its own number.
var rows = map[int]forms.Form{
	1:  {Kind: 1, Width: 8, Man: 0, Bias: 0, Top: 0x7F, Inf: 0, NaN: 0x80},
	2:  {Kind: 1, Width: 16, Man: 0, Bias: 0, Top: 0x7FFF, Inf: 0, NaN: 0x8000},
	3:  {Kind: 1, Width: 32, Man: 0, Bias: 0, Top: 0x7FFFFFFF, Inf: 0, NaN: 0x80000000},
	4:  {Kind: 1, Width: 64, Man: 0, Bias: 0, Top: 0x7FFFFFFFFFFFFFFF, Inf: 0, NaN: 0x8000000000000000},
	5:  {Kind: 2, Width: 8, Man: 3, Bias: 7, Top: 0x7E, Inf: 0, NaN: 0x7F},
	6:  {Kind: 2, Width: 8, Man: 2, Bias: 15, Top: 0x7B, Inf: 0x7C, NaN: 0x7E},
	7:  {Kind: 2, Width: 6, Man: 2, Bias: 3, Top: 0x1F, Inf: 0, NaN: 0},
	8:  {Kind: 2, Width: 6, Man: 3, Bias: 1, Top: 0x1F, Inf: 0, NaN: 0},
	9:  {Kind: 2, Width: 4, Man: 1, Bias: 1, Top: 0x7, Inf: 0, NaN: 0},
	10: {Kind: 3, Width: 8, Man: 6, Bias: 0, Top: 0x7F, Inf: 0, NaN: 0},
	11: {Kind: 4, Width: 8, Man: 0, Bias: 127, Top: 0xFE, Inf: 0, NaN: 0xFF},
	12: {Kind: 2, Width: 16, Man: 10, Bias: 15, Top: 0x7BFF, Inf: 0x7C00, NaN: 0x7E00},
	13: {Kind: 2, Width: 32, Man: 23, Bias: 127, Top: 0x7F7FFFFF, Inf: 0x7F800000, NaN: 0x7FC00000},
	14: {Kind: 2, Width: 64, Man: 52, Bias: 1023, Top: 0x7FEFFFFFFFFFFFFF, Inf: 0x7FF0000000000000, NaN: 0x7FF8000000000000},
}

// none are numbers of no form.
var none = []int{0, 15, -1, -14, 16, 256 + 1, 1<<32 + 1, math.MinInt32, math.MaxInt32, math.MinInt, math.MinInt + 1, math.MaxInt}

func TestKinds(t *testing.T) {
	if k := [4]int{forms.Tapered, forms.Signed, forms.Turned, forms.Scale}; k != [4]int{1, 2, 3, 4} {
		t.Errorf("%v", k)
	}
}

func TestOf(t *testing.T) {
	for form, want := range rows {
		if f, err := forms.Of(form); f != want || err != api.OK {
			t.Errorf("%d: %+v, %v, want %+v", form, f, err, want)
		}
	}
}

// The forms have the numbers that package api gives them.
func TestOfNames(t *testing.T) {
	for i, form := range []int{api.Posit8, api.Posit16, api.Posit32, api.Posit64, api.E4M3, api.E5M2, api.E3M2, api.E2M3, api.E2M1,
		api.Int8, api.E8M0, api.Binary16, api.Binary32, api.Binary64} {
		if f, err := forms.Of(form); f != rows[i+1] || err != api.OK {
			t.Errorf("%d: %+v, %v", form, f, err)
		}
	}
}

func TestOfNone(t *testing.T) {
	for _, form := range none {
		if f, err := forms.Of(form); f != (forms.Form{}) || err != api.ErrForm {
			t.Errorf("%d: %+v, %v", form, f, err)
		}
	}
}

func TestAll(t *testing.T) {
	if list := forms.All(); !slices.Equal(list, []int{1, 2, 3, 4, 5, 6, 7, 8, 9, 10, 11, 12, 13, 14}) {
		t.Errorf("%v", list)
	}
}

// What is answered is the caller's: what is written over it is in no other answer.
func TestAnswersOwn(t *testing.T) {
	list, other := forms.All(), forms.All()
	clear(list[:cap(list)])
	for i, form := range forms.All() {
		if form != i+1 || other[i] != form {
			t.Errorf("All: %d, %d at %d", form, other[i], i)
		}
	}
	for form, want := range rows {
		f, _ := forms.Of(form)
		f.Kind, f.Width, f.Man, f.Bias, f.Top, f.Inf, f.NaN = 9, 9, 9, 9, 9, 9, 9
		if again, _ := forms.Of(form); again != want {
			t.Errorf("%d: %+v", form, again)
		}
	}
}
