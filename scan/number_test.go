package scan_test

import (
	"strconv"
	"strings"
	"testing"

	"caliper/scan"
)

func number(d string, k int) told { return told{kind: scan.Number, d: d, k: k} }

func cut(d string, k int) told { return told{kind: scan.Number, d: d, k: k, cut: true} }

var (
	nought = told{kind: scan.Number}
	large  = told{kind: scan.Number, big: 1}
	small  = told{kind: scan.Number, big: -1}
)

// wantBoth wants it of the text, and of the one below nought.
func wantBoth(t *testing.T, s string, x told) {
	t.Helper()
	wantItem(t, s, x)
	x.neg = true
	wantItem(t, "-"+s, x)
}

func TestNumbers(t *testing.T) {
	for s, x := range map[string]told{
		"12.50e3": number("125", 2), "1": number("1", 0), "10": number("1", 1), "9": number("9", 0), "5.": number("5", 0), ".5": number("5", -1), "0.5": number("5", -1),
		"100": number("1", 2), "101": number("101", 0), "1.0": number("1", 0), "10.0": number("1", 1), "10.01": number("1001", -2), "0.010": number("1", -2), "1000.": number("1", 3),
		"1e0": number("1", 0), "1E5": number("1", 5), "1e+5": number("1", 5), "1e-5": number("1", -5), "1e005": number("1", 5), "1e-005": number("1", -5), "5.e1": number("5", 1), ".5e1": number("5", 0), ".50E-1": number("5", -2),
		"1e-0": number("1", 0), "1e+0": number("1", 0), "0012.3400e-10": number("1234", -12), "120e-1": number("12", 0), "1.5e15": number("15", 14),
		"18446744073709551615": number("18446744073709551615", 0), "18446744073709551616": number("18446744073709551616", 0), "1.8446744073709551617": number("18446744073709551617", -19),
		"99999999999999999999999999999999999999990e-1": number("9999999999999999999999999999999999999999", 0),
	} {
		wantBoth(t, s, x)
	}
}

func TestNoughts(t *testing.T) {
	for _, s := range []string{
		"0", "00", "0.", ".0", "0.0", "000.000", "0e0", "0e5", "0e-5", "0.e+7", ".0E1000", "0e1000", "0e-1001", "0.000e5", "0e99999999999999999999", "0e-99999999999999999999",
		"0e18446744073709551616", noughts(5000), "." + noughts(5000), noughts(3000) + "." + noughts(3000) + "e" + nines(3000),
	} {
		wantBoth(t, s, nought)
	}
}

func TestFar(t *testing.T) {
	for s, x := range map[string]told{
		"1e999": number("1", 999), "9.99e999": number("999", 997), "10e998": number("1", 999), "0.1e1000": number("1", 999), "99e998": number("99", 998), "0.0001e1003": number("1", 999),
		"1e1000": large, "1.0e1000": large, "10e999": large, "0.1e1001": large, "9e1000": large, "100e998": large, "1000000e994": large, "0.01e1002": large, "1.5e1000": large, "1e1001": large, "1e2000": large, "1e3000": large,
		"1e-1000": number("1", -1000), "1.5e-1000": number("15", -1001), "10e-1001": number("1", -1000), "0.1e-999": number("1", -1000), "9.99e-1000": number("999", -1002), "1.000e-1000": number("1", -1000), "0.001e-997": number("1", -1000),
		"9e-1001": small, "0.9e-1000": small, "9.99e-1001": small, "10e-1002": small, "99e-1002": small, "0.1e-1000": small, "1e-1001": small, "0.0999e-999": small, "1e-2000": small, "1e-3000": small,
		nines(1000): number(nines(1000), 0), nines(1001): large, "1" + noughts(999): number("1", 999), "1" + noughts(1000): large, "1" + noughts(1000) + "e-1": number("1", 999), "1" + noughts(999) + "e1": large,
		"0." + noughts(999) + "1": number("1", -1000), "." + noughts(1000) + "9": small, "." + noughts(1000) + "9e1": number("9", -1000), "." + noughts(999) + "1e-1": small,
		nines(1000) + "." + nines(990): number(nines(1990), -990), "1" + noughts(1000) + "." + nines(2000): large, "." + noughts(1000) + nines(3000): small,
	} {
		wantBoth(t, s, x)
	}
}

func TestCut(t *testing.T) {
	d := nines(1990)
	for s, x := range map[string]told{
		"0." + d[1:]: number(d[1:], -1989), "0." + d: number(d, -1990), "0." + d + "9": cut(d+"1", -1991), "0." + d + "1": cut(d+"1", -1991), "0." + d + "0001": cut(d+"1", -1991),
		"0." + d + noughts(5000): number(d, -1990), "0." + d + noughts(5000) + "2": cut(d+"1", -1991), d + "e-1990": number(d, -1990), d + "9e-1991": cut(d+"1", -1991),
		d + "0e-1500": number(d, -1499), d + "05e-1500": cut(d+"1", -1499), "0.00" + d + "5": cut(d+"1", -1993), noughts(3000) + "." + noughts(10) + d + "5": cut(d+"1", -2001),
		nines(1000) + "." + nines(991): cut(d+"1", -991), nines(1000) + "." + nines(3000): cut(d+"1", -991), nines(1001) + "." + nines(3000): large, nines(3000): large, nines(3000) + "e-2000": cut(d+"1", -991),
		nines(3000) + "e-2001": cut(d+"1", -992), nines(3000) + "e-1999": large, "9." + d + "e999": cut(d+"1", -991), "9." + d + "e1000": large, "9." + d + "e-1000": cut(d+"1", -2990), "9." + d + "e-1001": small,
		"1." + noughts(1988) + "1": number("1"+noughts(1988)+"1", -1989), "1." + noughts(1989) + "1": cut("1"+noughts(1989)+"1", -1990), "1." + noughts(6000) + "1": cut("1"+noughts(1989)+"1", -1990), "1." + noughts(6000): number("1", 0),
		"5" + noughts(1990) + "3e-1500": cut("5"+noughts(1989)+"1", -1499), "5" + noughts(1988) + "3e-1500": number("5"+noughts(1988)+"3", -1500),
	} {
		wantBoth(t, s, x)
	}
}

// Powers of any size count: none of them runs over.
func TestPowers(t *testing.T) {
	for _, s := range []string{
		"2001", "65536", "32767", "4294967296", "4294967301", "2147483647", "2147483648", "9223372036854775807", "9223372036854775808", "9223372036854775809", "18446744073709551615", "18446744073709551616", "18446744073709551621",
		"36893488147419103237", "340282366920938463463374607431768211456", "1" + noughts(64), "5" + noughts(100), nines(19), nines(20), nines(2001), nines(100000),
	} {
		for _, d := range []string{"1", "999.5", ".001", nines(2100)} {
			wantBoth(t, d+"e"+s, large)
			wantBoth(t, d+"E+00"+s, large)
			wantBoth(t, d+"e-"+s+nines(3), small)
		}
		wantBoth(t, "0.00e"+s, nought)
		wantBoth(t, "0e-"+s, nought)
	}
	for s, x := range map[string]told{
		"1e" + noughts(5000): number("1", 0), "1e-" + noughts(5000) + "7": number("1", -7), "1e+" + noughts(5000) + "999": number("1", 999), "1e" + noughts(30) + "1000": large, "1e-" + noughts(5000) + "1001": small,
	} {
		wantBoth(t, s, x)
	}
}

// Digits may be as many as bring a power back, however far it is.
func TestBroughtBack(t *testing.T) {
	for _, n := range []int{1, 500, 999, 1000, 1001, 2000, 4000, 99999, 1 << 20} {
		up, down := "1"+noughts(n), "."+noughts(n)+"1"
		for _, k := range []int{-1001, -1000, -999, 0, 1, 998, 999, 1000} {
			x := number("1", k)
			if k < -1000 {
				x = small
			} else if k > 999 {
				x = large
			}
			wantBoth(t, up+"e"+strconv.Itoa(k-n), x)
			wantBoth(t, down+"e"+strconv.Itoa(k+n+1), x)
			wantBoth(t, noughts(n)+"."+noughts(n)+"100e"+strconv.Itoa(k+n+1), x)
		}
	}
}

// The numbers of texts of all shapes are those that fractions tell.
func TestShapes(t *testing.T) {
	m := mixer(9)
	for range 6000 {
		check(t, m.text())
	}
	for range 200 {
		for _, n := range []int{1900, 1988, 1989, 1990, 1991, 1992, 2100, 4000} {
			digits := m.digits(n)
			at := m.below(n)
			check(t, digits[:at]+"."+digits[at:]+"e"+strconv.Itoa(m.below(5000)-2500))
		}
	}
}

// Bytes of a text put out, put in, or turned, still are told of as they should be.
func TestSpoiled(t *testing.T) {
	m := mixer(90)
	for range 3000 {
		s := m.text()
		if len(s) > 60 {
			s = s[:60]
		}
		at := m.below(len(s) + 1)
		put := []string{"-", "+", ".", "e", "E", "0", "inf", "nan", "NaR", "x", "\x00"}[m.below(11)]
		check(t, s[:at]+put+s[at:])
		check(t, s[:at]+put)
		check(t, s[:at])
		check(t, s[at:])
	}
}

// Which sign, and which noughts at both ends, a number has, does not matter for D.
func TestNoughtsAtEnds(t *testing.T) {
	for _, s := range []string{"1", "12.5", "7e300", "123456789.123456789e-200", nines(500) + "." + nines(1490), nines(500) + "." + nines(1491), "1e-1000", "9e999"} {
		head, power, _ := strings.Cut(s, "e")
		if power != "" {
			power = "e" + power
		}
		if !strings.Contains(head, ".") {
			head += "."
		}
		x, ok := want(s)
		if !ok {
			t.Fatal(s)
		}
		for _, n := range []int{0, 1, 18, 19, 20, 2000, 5000} {
			wantBoth(t, noughts(n)+head+power, x)
			wantBoth(t, head+noughts(n)+power, x)
			wantBoth(t, noughts(n)+head+noughts(n)+power, x)
		}
	}
}
