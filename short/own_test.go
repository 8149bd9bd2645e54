package short_test

import (
	"slices"
	"testing"

	"caliper/api"
	"caliper/forms"
)

// What is answered is the caller's: what is written over it is in no other answer.
func TestAnswersOwn(t *testing.T) {
	for name, call := range calls {
		for _, form := range forms.All() {
			for _, p := range []uint64{1, 3, 5, formOf(form).Top} {
				d, _ := call(form, p)
				kept := slices.Clone(d.D)
				clear(d.D[:cap(d.D)])
				if again, _ := call(form, p); len(kept) == 0 || !slices.Equal(again.D, kept) {
					t.Errorf("%s of %d, %X: %v, not %v", name, form, p, again.D, kept)
				}
			}
		}
	}
}

// The same calls have the same answers, whatever stood between them.
func TestSameAgain(t *testing.T) {
	type answer struct {
		d   string
		k   int
		neg bool
		err api.Errno
	}
	ask := func() (list []answer) {
		for _, name := range []string{"Short", "Full"} {
			for _, form := range append(forms.All(), 0, 15) {
				for p := range uint64(300) {
					d, err := calls[name](form, p*p*p)
					list = append(list, answer{toBig(d.D).String(), d.K, d.Neg, err})
				}
			}
		}
		return list
	}
	if !slices.Equal(ask(), ask()) {
		t.Error("other answers")
	}
}
