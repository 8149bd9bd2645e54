package scan_test

import (
	"bytes"
	"math"
	"slices"
	"strings"
	"testing"

	"caliper/api"
	"caliper/scan"
)

var some = []string{"", "-", "1e", "inf", "-NaR", "nan", "0", "-0.00e7", "-12.50e3", "1e1000", "1e-1001", "007.500", "18446744073709551616", nines(1990) + "e-1500", nines(3000) + "e-2500", "." + nines(4000) + "x"}

// What is handed in stays, behind its end too, whose bytes are no part of the text.
func TestHandedInStays(t *testing.T) {
	for _, s := range some {
		for _, behind := range []string{"", "0", "000123", ".5", "e5", "x", "nf"} {
			whole := []byte(s + behind)
			got, at, err := scan.Scan(whole[:len(s)])
			if string(whole) != s+behind {
				t.Errorf("%s: %s", brief(s+behind), brief(string(whole)))
			}
			if x, ok := want(s); ok != (err == api.OK) || ok && plain(t, got) != x || !ok && at != placeOf(s) {
				t.Errorf("%s: %v, %d, %v", brief(s), plain(t, got), at, err)
			}
		}
	}
}

// What is handed in is not kept, and what is answered is the caller's.
func TestAnswersOwn(t *testing.T) {
	for _, s := range some {
		b := []byte(s)
		item, _, _ := scan.Scan(b)
		copy(b, bytes.Repeat([]byte("7"), len(b)))
		if x, ok := want(s); ok && plain(t, item) != x {
			t.Errorf("%s: %v", brief(s), plain(t, item))
		}
		kept := slices.Clone(item.D)
		for i := range item.D[:cap(item.D)] {
			item.D[:cap(item.D)][i] = math.MaxUint64
		}
		if again, _, _ := scan.Scan([]byte(s)); !slices.Equal(again.D, kept) {
			t.Errorf("%s: %v", brief(s), again.D)
		}
	}
}

// The same calls have the same answers, whatever stood between them.
func TestSameAgain(t *testing.T) {
	type answer struct {
		item told
		at   int
		err  api.Errno
	}
	ask := func() (list []answer) {
		for _, s := range some {
			item, at, err := scan.Scan([]byte(s))
			list = append(list, answer{plain(t, item), at, err})
		}
		return list
	}
	first := ask()
	scan.Scan([]byte(strings.Repeat("x", 100)))
	if !slices.Equal(first, ask()) {
		t.Error("other answers")
	}
}
