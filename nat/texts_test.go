package nat_test

import (
	"math/big"
	"strings"
	"testing"

	"caliper/api"
	"caliper/nat"
)

// wantText asks for the text of a number, and for the number of its text, if that is not too long.
func wantText(t *testing.T, n *big.Int) {
	t.Helper()
	s := n.String()
	if got := nat.Text(fromBig(n)); got != s {
		t.Errorf("Text: got %s, want %s", got, s)
	}
	got, ok := nat.Parse(s)
	if len(s) > 2000 {
		if ok || len(got) != 0 {
			t.Errorf("Parse of %d bytes: %v, %v", len(s), got, ok)
		}
		return
	}
	if !ok {
		t.Errorf("Parse of %s: false", s)
	}
	wantBig(t, got, n, "Parse", s)
}

func TestTexts(t *testing.T) {
	one := big.NewInt(1)
	for i := range int64(120) {
		for _, n := range []*big.Int{power(10, i), power(2, 3*i), power(7, i)} {
			wantText(t, n)
			wantText(t, new(big.Int).Sub(n, one))
			wantText(t, new(big.Int).Add(n, one))
		}
	}
	for i := range 110 {
		wantText(t, toBig(mixed(uint64(i), i)))
	}
	for _, i := range []int64{1998, 1999, 2000, 2001, 4000} {
		wantText(t, power(10, i))
		wantText(t, new(big.Int).Sub(power(10, i), one))
	}
}

func TestTextOfNoughts(t *testing.T) {
	for _, a := range []api.Nat{nil, {}, {0}, {0, 0, 0}} {
		if got := nat.Text(a); got != "0" {
			t.Errorf("Text of %v: %q", a, got)
		}
	}
	for s, a := range map[string]api.Nat{
		"5":                    {5, 0, 0},
		"18446744073709551615": {most, 0},
		"18446744073709551616": {0, 1, 0},
		"36893488147419103237": {5, 2},
	} {
		if got := nat.Text(a); got != s {
			t.Errorf("Text of %v: %q", a, got)
		}
	}
}

func TestParse(t *testing.T) {
	for s, want := range map[string]api.Nat{
		"0":                    nil,
		"9":                    {9},
		"10":                   {10},
		"18446744073709551615": {most},
		"18446744073709551616": {0, 1},
		"18446744073709551625": {9, 1},
	} {
		got, ok := nat.Parse(s)
		if !ok {
			t.Errorf("Parse of %q: false", s)
		}
		wantNat(t, got, want, "Parse", s)
	}
}

func TestParseWrong(t *testing.T) {
	texts := []string{
		"", " ", "+", "-", "-0", "-1", "+1", "00", "01", "007", " 1", "1 ", "1\n", "\t1", "1 1", "1_0", "1,000",
		"1.", "1.0", "1e3", "1E3", "0x1", "0b1", "0o7", "a", "1a", "a1", "12a45", "F", "inf", "nan", "1/", "/1", "1:", ":1",
		"\x00", "1\x00", "\xff", "1\xff1", "\u0663", "1\u0663", "\uff11", "\u00b2",
		strings.Repeat("9", 2001), strings.Repeat("1", 5000), strings.Repeat("0", 20), "0" + strings.Repeat("9", 30),
		strings.Repeat("1", 25) + "x", "x" + strings.Repeat("1", 25), strings.Repeat("1", 25) + "-" + strings.Repeat("1", 25),
	}
	for _, s := range texts {
		if got, ok := nat.Parse(s); ok || len(got) != 0 {
			t.Errorf("Parse of %q: %v, %v", s, got, ok)
		}
	}
}

// Each byte but a digit is wrong, wherever it stands in a text of several words.
func TestParseEachByte(t *testing.T) {
	digits := strings.Repeat("1234567890", 5)
	for c := range 256 {
		isDigit := c >= '0' && c <= '9'
		for _, i := range []int{1, 12, 18, 19, 20, 31, 49} {
			s := digits[:i] + string([]byte{byte(c)}) + digits[i+1:]
			if got, ok := nat.Parse(s); ok != isDigit || !ok && len(got) != 0 {
				t.Errorf("Parse of %q: %v", s, ok)
			}
		}
	}
}
