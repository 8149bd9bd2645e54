package parse_test

import (
	"slices"
	"testing"

	"caliper/api"
	"caliper/forms"
	"caliper/parse"
)

// The same calls have the same answers, whatever stood between them.
func TestSameAgain(t *testing.T) {
	type answer struct {
		p     uint64
		place int
		err   api.Errno
	}
	ask := func() (list []answer) {
		for _, form := range append(forms.All(), 0, 15) {
			for _, mode := range []int{0, api.Saturate, api.Special, 3} {
				for _, s := range []string{"1", "-1e9999", "1e-9999", "-0.3", "464.1", "inf", "-nan", "NaR", "-NaR", "", "1.5.", "infx", "1e"} {
					p, place, err := parse.Parse(form, mode, s)
					list = append(list, answer{p, place, err})
				}
			}
		}
		return list
	}
	if !slices.Equal(ask(), ask()) {
		t.Error("other answers")
	}
}
