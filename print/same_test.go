package print_test

import (
	"slices"
	"testing"

	"caliper/api"
)

// The same calls have the same answers, whatever stood between them.
func TestSameAgain(t *testing.T) {
	type answer struct {
		s   string
		err api.Errno
	}
	ask := func() (list []answer) {
		for _, name := range []string{"Print", "PrintFull"} {
			for form := range 16 {
				for p := range uint64(300) {
					s, err := calls[name](form, p*p*p)
					list = append(list, answer{s, err})
				}
			}
		}
		return list
	}
	if !slices.Equal(ask(), ask()) {
		t.Error("other answers")
	}
}
