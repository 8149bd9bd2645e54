package layout_test

import (
	"strings"
	"testing"

	"caliper/api"
	"caliper/layout"
)

func TestUnlayTable(t *testing.T) {
	for s, want := range map[string]told{
		"0": {false, "0", 0}, "-0": {true, "0", 0}, "1": {false, "1", 0}, "-7000": {true, "7", 3}, "1.25": {false, "125", -2}, "0.5": {false, "5", -1}, "-0.000001": {true, "1", -6}, "1e21": {false, "1", 21}, "-1e-7": {true, "1", -7},
		"100000000000000000000": {false, "1", 20}, "1.2e5001": {false, "12", 5000}, "1.2e-4999": {false, "12", -5000}, "1e5000": {false, "1", 5000}, "1e-5000": {false, "1", -5000},
		nines(21): {false, nines(21), 0}, "9." + nines(1999) + "e6999": {false, nines(2000), 5000}, "-0.00000" + nines(2000): {true, nines(2000), -2005},
	} {
		wantDigits(t, s, want)
	}
}

func TestUnlayThereAndBack(t *testing.T) {
	eachRight(func(d api.Digits) { wantDigits(t, layout.Layout(d), tell(d)) })
}

func TestUnlayNone(t *testing.T) {
	for _, s := range []string{
		"", "-", ".", "-.", "e", "-e", "+", "+0", "+1", "--1", "--0", "-+1", "- 1", " 1", "1 ", "\t1", "1\n", "1\x00", "\x00", "\xff", "1\xff", "\u0661", "1\u00a0", "\uff11",
		"inf", "-inf", "nan", "NaR", "x", "0x1", "0b1", "0o1", "1_0", "1,5", "1'0", "1/2", "1e21f", "1p4", "1:", "/1",
		// Noughts that Layout doesn't tell.
		"00", "-00", "01", "-01", "007", "0.0", "-0.0", "0.", ".0", "0.00", "1.0", "1.50", "10.0", "0.10", "0.50", "00.5", "01.5", "1.e21", "1.0e21", "1.50e21", "0e0", "0e5", "0e21", "-0e-7", "0.0e21", "0e", "e0",
		"0.1e30", "0.1e-30", "01e21", "00e21", "10e20", "12e30", "12.5e30", "12e-30", "100e-9", "1.0e-7",
		// Points and powers that are not told so.
		".5", "-.5", "5.", "-5.", "1.2.3", "1..2", "0..5", "1.-5", "-1.-5", "1-", "1-2", "1e", "1e-", "1e+", "1e+21", "1e021", "1e-07", "1e-007", "1e00", "1e-0", "1E21", "1E-7", "1e--7", "1e-+7", "1e21.", "1e2.1", "1e 21", "1e21 ", "1e21e21", "1ee21", "e21", "-e21", ".e21", "1.e-7", "1e_21", "1e2_1", "1e0x21",
		// A power where there is to be none, and none where there is to be one.
		"1e0", "1e1", "1e5", "1e20", "1.5e20", "1e-1", "1e-6", "9.9e-6", "1.25e-6", "1.25e0", "1" + noughts(21), nines(22), nines(22) + ".5", "1" + noughts(30), "0.0000001", "0.00000012", "0.000000" + nines(30),
		// Too far, or too many digits.
		"1e5001", "1e-5001", "1.2e5002", "1.2e-5000", "1e9999", "1e-9999", "1e99999999999999999999", "-1e-99999999999999999999", "1e9223372036854775807", "1e-9223372036854775808", "1e18446744073709551637", "1.5e-9223372036854775808", "1.5e9223372036854775808",
		nines(2001), "9." + nines(2000), "0." + nines(2001), "0.00000" + nines(2001), "9." + nines(2000) + "e2000", "9." + nines(1999) + "e7000", "9." + nines(1999) + "e-3002", "1" + noughts(2000), "0." + noughts(2000) + "1", noughts(2001), "9." + nines(3000) + "e21",
	} {
		wantNoText(t, s)
		wantNoText(t, s+"-")
		wantNoText(t, "-"+"-"+s)
	}
}

// check asks for what the chapter's words say of any text.
func check(t *testing.T, s string) {
	t.Helper()
	if !mayBe(s) {
		wantNoText(t, s)
		return
	}
	d, err := layout.Unlay(s)
	if back := layout.Layout(d); back != s || err != api.OK {
		t.Errorf("%s: %v, %v, which is %s", s, tell(d), err, back)
	}
}

// All texts of a few bytes.
func TestUnlayShortTexts(t *testing.T) {
	texts := []string{""}
	for range 7 {
		var longer []string
		for _, s := range texts {
			for _, c := range []string{"-", ".", "e", "0", "1", "7"} {
				longer = append(longer, s+c)
				check(t, s+c)
			}
		}
		texts = longer
	}
}

// Each byte, at every place of texts of each shape.
func TestUnlaySpoiledTexts(t *testing.T) {
	for _, s := range []string{"0", "-0", "7", "-12", "125000", "100000000000000000000", "123456789012345678901", "1.25", "-120.05", "123456789012345678901.5", "0.5", "-0.00000125", "1e21", "1.25e21", "-9.9e-7", "1e-10", "1.01e4999", "1e5000", "1.2e5001", "-1e-5000", "1.2e-4999"} {
		for at := range len(s) + 1 {
			check(t, s[:at])
			check(t, s[at:])
			for c := range 256 {
				check(t, s[:at]+string([]byte{byte(c)})+s[at:])
				if at < len(s) {
					check(t, s[:at]+string([]byte{byte(c)})+s[at+1:])
				}
			}
			if at < len(s) {
				check(t, s[:at]+s[at+1:])
				check(t, s[:at]+s[at:at+1]+s[at:])
			}
		}
	}
}

// Powers about all edges, of one digit, and of more.
func TestUnlayPowers(t *testing.T) {
	for _, first := range []string{"1", "-9", "1.2", "1.25", "9." + nines(20), "-9." + nines(1999), "9." + nines(2000)} {
		_, frac, _ := strings.Cut(first, ".")
		for _, edge := range []int{0, 21, -7, 5000, -5000, 5000 + len(frac), -5000 + len(frac), 7000, -7000} {
			for by := -4; by <= 4; by++ {
				check(t, first+power(edge+by))
			}
		}
	}
}

// Whole numbers and fractions about the greatest and the least that are written without a power.
func TestUnlayPoints(t *testing.T) {
	for _, n := range []int{1, 2, 5, 6, 7, 19, 20, 21, 22, 23, 1999, 2000, 2001} {
		for _, behind := range []int{0, 1, 2, 5, 1978, 1979, 1980, 1999, 2000} {
			for _, s := range []string{nines(n), "1" + noughts(n-1), nines(n) + "." + nines(behind), "0." + noughts(n-1) + nines(behind), "0." + nines(n) + noughts(behind)} {
				check(t, s)
				check(t, "-"+s)
			}
		}
	}
}

// Of long ones it ends soon enough.
func TestUnlayLong(t *testing.T) {
	for _, s := range []string{nines(1 << 20), noughts(1 << 20), "1" + noughts(1<<20), "0." + noughts(1<<20) + "1", "1e" + nines(1<<20), "1e-" + noughts(1<<20) + "7", strings.Repeat("-", 1<<20), strings.Repeat("e", 1<<20), strings.Repeat(".", 1<<20)} {
		wantNoText(t, s)
	}
}
