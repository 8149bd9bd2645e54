package scan_test

import (
	"math"
	"strings"
	"testing"

	"caliper/api"
	"caliper/scan"
)

func TestConstants(t *testing.T) {
	if scan.Number != 1 || scan.Inf != 2 || scan.NaN != 3 || scan.NaR != 4 || scan.Most != 1990 || scan.Far != 1000 {
		t.Error(scan.Number, scan.Inf, scan.NaN, scan.NaR, scan.Most, scan.Far)
	}
}

func TestWords(t *testing.T) {
	for s, x := range map[string]told{
		"inf": {kind: scan.Inf}, "-inf": {kind: scan.Inf, neg: true},
		"nan": {kind: scan.NaN}, "-nan": {kind: scan.NaN, neg: true},
		"NaR": {kind: scan.NaR}, "-NaR": {kind: scan.NaR, neg: true},
	} {
		wantItem(t, s, x)
	}
}

func TestNone(t *testing.T) {
	for s, place := range map[string]int{
		"": 0, "-": 1, "+": 0, "+1": 0, "--1": 1, "-+1": 1, " 1": 0, "- 1": 1, "1 ": 1, "1\n": 1, "1\x00": 1, "\x00": 0, "\xff": 0, "\u0663": 0, "1\u0663": 1,
		".": 1, "-.": 2, "..": 1, ".e1": 1, "-.E1": 2, "e1": 0, "E1": 0, "-e1": 1, ".-1": 1, ".inf": 1,
		"1.2.3": 3, "1..": 2, "1.-": 2, "1-": 1, "1+1": 1, "1,5": 1, "1_0": 1, "0x1": 1, "0b1": 1, "1f": 1, "1/2": 1, "1:": 1, ".5/": 2, ".5:": 2,
		"1e": 2, "1E": 2, "1e+": 3, "1e-": 3, "1.e": 3, "1.e+": 4, ".5e": 3, "1e+-1": 3, "1e-+1": 3, "1e--1": 3, "1e.5": 2, "1e1.": 3, "1e1e1": 3, "1ee1": 2, "1e 1": 2, "1e1 ": 3, "1einf": 2,
		"i": 1, "in": 2, "ix": 1, "inF": 2, "Inf": 0, "INF": 0, "inf ": 3, "infi": 3, "infinity": 3, "inf1": 3, "infe1": 3, "-i": 2, "-in": 3, "-Inf": 1, "--inf": 1, "+inf": 0,
		"n": 1, "na": 2, "nx": 1, "nar": 2, "naN": 2, "naR": 2, "nAn": 1, "nan1": 3, "nan(1)": 3, "-na": 3, "nan-": 3, "nnan": 1,
		"N": 1, "Na": 2, "Nx": 1, "NaN": 2, "Nar": 2, "NAR": 1, "NAN": 1, "NaR ": 3, "NaRR": 3, "-Na": 3, "-NaN": 3, "+NaR": 0, "1inf": 1, "1nan": 1, "1NaR": 1,
	} {
		wantNone(t, s, place)
	}
	for _, none := range [][]byte{nil, {}} {
		if item, at, err := scan.Scan(none); item.Kind != 0 || at != 0 || err != api.ErrSyntax {
			t.Error(item, at, err)
		}
	}
}

// Behind every beginning of a text of few bytes each byte is tried.
func TestEachByte(t *testing.T) {
	beginnings := []string{""}
	for range 6 {
		var longer []string
		for _, s := range beginnings {
			for c := range math.MaxUint8 + 1 {
				check(t, s+string([]byte{byte(c)}))
			}
			for _, c := range strings.Split("-+.eE05infaNR", "") {
				if begins(s + c) {
					longer = append(longer, s+c)
				}
			}
		}
		beginnings = longer
	}
}

// What stands behind the byte that makes it none does not matter.
func TestFirstByteTells(t *testing.T) {
	for s, place := range map[string]int{"1.5e+3": 6, "-12.": 4, ".5E-07": 6, "inf": 3, "-nan": 4, "NaR": 3, "1e": 2, "-": 1, ".": 1, "na": 2} {
		for _, behind := range []string{" ", "x", "x1", "!.", "\x00\x00", "$inf", "~~~~", "_" + noughts(5000)} {
			wantNone(t, s+behind, place)
		}
	}
}

func TestLongNone(t *testing.T) {
	for _, n := range []int{1990, 1991, 2000, 2001, 70000} {
		wantNone(t, nines(n)+"x", n)
		wantNone(t, noughts(n)+"."+nines(n)+"-", 2*n+1)
		wantNone(t, "-"+nines(n)+".."+nines(n), n+2)
		wantNone(t, "."+nines(n)+"e", n+2)
		wantNone(t, "1e-"+nines(n)+"e", n+3)
		wantNone(t, "1e"+noughts(n)+".", n+2)
		wantNone(t, "inf"+strings.Repeat("f", n), 3)
	}
}
