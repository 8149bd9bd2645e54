package trans_test

import (
	"slices"
	"testing"

	"caliper/api"
	"caliper/trans"
)

// The same calls have the same answers, whatever stood between them.
func TestSameAgain(t *testing.T) {
	type answer struct {
		p             uint64
		is            bool
		err, otherErr api.Errno
	}
	ask := func() (list []answer) {
		for from := range 16 {
			for to := range 16 {
				for p := range uint64(90) {
					q, err := trans.Turn(from, to, int(p%4), p*p*p)
					is, otherErr := trans.Just(from, to, p*p*p)
					list = append(list, answer{q, is, err, otherErr})
				}
			}
		}
		return list
	}
	if !slices.Equal(ask(), ask()) {
		t.Error("other answers")
	}
}
