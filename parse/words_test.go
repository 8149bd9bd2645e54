package parse_test

import (
	"testing"

	"caliper/api"
	"caliper/forms"
)

// words has the patterns of inf, -inf, nan, and NaR in each form; 0: the form does not have the word.
// (No form has a word whose pattern is 0; nan and -nan are one; none has -NaR.)
var words = map[int][4]uint64{
	api.Posit8: {0, 0, 0, 0x80}, api.Posit16: {0, 0, 0, 0x8000}, api.Posit32: {0, 0, 0, 0x80000000}, api.Posit64: {0, 0, 0, 0x8000000000000000},
	api.E4M3: {0, 0, 0x7F, 0}, api.E5M2: {0x7C, 0xFC, 0x7E, 0}, api.E3M2: {}, api.E2M3: {}, api.E2M1: {}, api.Int8: {}, api.E8M0: {0, 0, 0xFF, 0},
	api.Binary16: {0x7C00, 0xFC00, 0x7E00, 0}, api.Binary32: {0x7F800000, 0xFF800000, 0x7FC00000, 0},
	api.Binary64: {0x7FF0000000000000, 0xFFF0000000000000, 0x7FF8000000000000, 0},
}

// wantWord asks for a pattern, or, if that is 0, for ErrNone where the word begins.
func wantWord(t *testing.T, form int, s string, p uint64, place int) {
	t.Helper()
	for _, mode := range modes {
		if p == 0 {
			wantError(t, form, mode, s, place, api.ErrNone)
		} else {
			want(t, form, mode, s, p)
		}
	}
}

func TestWords(t *testing.T) {
	for _, form := range forms.All() {
		has := words[form]
		wantWord(t, form, "inf", has[0], 0)
		wantWord(t, form, "-inf", has[1], 1)
		wantWord(t, form, "nan", has[2], 0)
		wantWord(t, form, "-nan", has[2], 1)
		wantWord(t, form, "NaR", has[3], 0)
		wantWord(t, form, "-NaR", 0, 1)
	}
}

// bad are no texts, and where they are none.
var bad = map[string]int{
	"": 0, "-": 1, "+": 0, "+1": 0, "--1": 1, " 1": 0, "1 ": 1, "1\n": 1, "\x00": 0, "\xff": 0, "1\u0663": 1, ".": 1, "-.": 2, ".e1": 1, "e1": 0, "1..": 2, "1.5.": 3, "1,5": 1, "0x1": 1, "1_0": 1,
	"1e": 2, "-1E": 3, "1e+": 3, "1.e-": 4, "1e+-1": 3, "1e1.": 3, "1e5e": 3, "0e": 2, "-0x": 2, "1e9999999999999999999999x": 24,
	"i": 1, "in": 2, "-in": 3, "Inf": 0, "INF": 0, "+inf": 0, "infinity": 3, "inf ": 3, "-infx": 4, "nax": 2, "-na": 3, "nan1": 3, "nan(1)": 3, "-nan-": 4, "NaN": 2, "nar": 2, "NAR": 1, "Na": 2, "NaRx": 3, "-NaR ": 4,
}

// What is no text is none in any form, whether the form would have the word or not.
func TestNoText(t *testing.T) {
	for _, form := range forms.All() {
		for _, mode := range modes {
			for s, place := range bad {
				wantError(t, form, mode, s, place, api.ErrSyntax)
			}
			for _, n := range []int{1989, 1990, 1991, 2000, 2001, 100000} {
				wantError(t, form, mode, nines(n)+"x", n, api.ErrSyntax)
				wantError(t, form, mode, "-."+nines(n)+"e", n+3, api.ErrSyntax)
				wantError(t, form, mode, "1e"+nines(n)+"-", n+2, api.ErrSyntax)
			}
		}
	}
}

func TestNoForm(t *testing.T) {
	for _, form := range noForms {
		for _, mode := range append(noModes, modes...) {
			for _, s := range []string{"1", "-0", "1e9999", "inf", "-inf", "nan", "NaR", "-NaR", "", "x", "1.5."} {
				wantError(t, form, mode, s, 0, api.ErrForm)
			}
		}
	}
}

func TestNoMode(t *testing.T) {
	for _, form := range forms.All() {
		for _, mode := range noModes {
			for _, s := range []string{"1", "-0", "1e9999", "-1e-9999", "inf", "-inf", "nan", "-nan", "NaR", "-NaR", "", "x", "1.5.", nines(3000)} {
				wantError(t, form, mode, s, 0, api.ErrArg)
			}
		}
	}
}
