package scan_test

import (
	"fmt"
	"math/big"
	"regexp"
	"slices"
	"strconv"
	"strings"
	"testing"

	"caliper/api"
	"caliper/scan"
)

// grammar is the chapter's TEXT, told in another way.
var grammar = regexp.MustCompile(`^(-?)(?:(inf)|(nan)|(NaR)|([0-9]+|[0-9]+\.[0-9]*|\.[0-9]+)(?:[eE]([+-]?[0-9]+))?)$`)

// ends are what may stand behind the beginning of a text, so that it is a whole one.
var ends = []string{"", "0", "nf", "f", "an", "n", "aR", "R"}

// begins is whether some text begins so.
func begins(s string) bool {
	return slices.ContainsFunc(ends, func(end string) bool { return grammar.MatchString(s + end) })
}

// placeOf is how many bytes of what is no text some text begins with.
func placeOf(s string) int {
	at := len(s)
	for !begins(s[:at]) {
		at--
	}
	return at
}

// told is an item in plain digits.
type told struct {
	kind int
	neg  bool
	d    string
	k    int
	big  int
	cut  bool
}

// want is what the text says, reckoned with fractions; false of what is none.
func want(s string) (told, bool) {
	m := grammar.FindStringSubmatch(s)
	if m == nil {
		return told{}, false
	}
	x := told{neg: m[1] == "-"}
	for i, kind := range []int{scan.Inf, scan.NaN, scan.NaR, scan.Number} {
		if m[i+2] != "" {
			x.kind = kind
		}
	}
	if x.kind == scan.Number {
		x.number(m[5], m[6])
	}
	return x, true
}

func (x *told) number(digits, power string) {
	whole, frac, _ := strings.Cut(digits, ".")
	n, _ := new(big.Int).SetString(whole+frac, 10)
	if n.Sign() == 0 {
		return
	}
	k, _ := new(big.Int).SetString("0"+strings.TrimLeft(power, "+-"), 10)
	if strings.HasPrefix(power, "-") {
		k.Neg(k)
	}
	k.Sub(k, big.NewInt(int64(len(frac))))
	if x.big = sizeOf(n, k); x.big != 0 {
		return
	}
	x.d, x.k = n.String(), int(k.Int64())
	for strings.HasSuffix(x.d, "0") {
		x.d, x.k = x.d[:len(x.d)-1], x.k+1
	}
	if more := len(x.d) - 1990; more > 0 {
		x.d, x.k, x.cut = x.d[:1990]+"1", x.k+more-1, true
	}
}

// sizeOf is 1 of n times 10 to the power of k, if that is 10^1000 or more, and -1, if it is below 10^-1000.
func sizeOf(n, k *big.Int) int {
	if !k.IsInt64() || k.Int64() > 1<<20 || k.Int64() < -1<<20 {
		return k.Sign()
	}
	x, least := new(big.Int).Set(n), big.NewInt(1)
	if power := k.Int64(); power >= 0 {
		x.Mul(x, tens(power))
	} else {
		least = tens(-power)
	}
	if x.Cmp(new(big.Int).Mul(least, tens(1000))) >= 0 {
		return 1
	}
	if new(big.Int).Mul(x, tens(1000)).Cmp(least) < 0 {
		return -1
	}
	return 0
}

func tens(n int64) *big.Int { return new(big.Int).Exp(big.NewInt(10), big.NewInt(n), nil) }

// plain is the item in plain digits, and wants that its number is normal.
func plain(t *testing.T, item scan.Item) told {
	t.Helper()
	n := new(big.Int)
	for _, w := range slices.Backward(item.D) {
		n.Lsh(n, 64).Or(n, new(big.Int).SetUint64(w))
	}
	if len(item.D) > 0 && item.D[len(item.D)-1] == 0 {
		t.Errorf("noughts at the end of %v", item.D)
	}
	x := told{kind: item.Kind, neg: item.Neg, k: item.K, big: item.Big, cut: item.Cut}
	if n.Sign() > 0 {
		x.d = n.String()
	}
	return x
}

// wantItem wants that the text says this.
func wantItem(t *testing.T, s string, x told) {
	t.Helper()
	item, at, err := scan.Scan([]byte(s))
	if got := plain(t, item); got != x || at != 0 || err != api.OK {
		t.Errorf("%s: %v, %d, %v, not %v", brief(s), got, at, err, x)
	}
}

// wantNone wants that this is no text, by that place.
func wantNone(t *testing.T, s string, place int) {
	t.Helper()
	item, at, err := scan.Scan([]byte(s))
	if plain(t, item) != (told{}) || item.D != nil || at != place || err != api.ErrSyntax {
		t.Errorf("%s: %v, %d, %v, not %d", brief(s), item, at, err, place)
	}
}

// check wants of any bytes what the other way of telling says.
func check(t *testing.T, s string) {
	t.Helper()
	if x, ok := want(s); ok {
		wantItem(t, s, x)
	} else {
		wantNone(t, s, placeOf(s))
	}
}

func brief(s string) string {
	if len(s) > 80 {
		return fmt.Sprintf("%q..%q (%d bytes)", s[:40], s[len(s)-30:], len(s))
	}
	return strconv.Quote(s)
}

func noughts(n int) string { return strings.Repeat("0", n) }

func nines(n int) string { return strings.Repeat("9", n) }

// mixer tells numbers that look like any, and are always the same ones.
type mixer uint64

func (m *mixer) below(n int) int {
	*m = *m*6364136223846793005 + 1442695040888963407
	return int(uint64(*m) >> 33 % uint64(n))
}

func (m *mixer) digits(n int) string {
	b := make([]byte, n)
	for i := range b {
		b[i] = byte('0' + m.below(10))
	}
	return string(b)
}

// text is a text of a number, of the pieces that a text may have.
func (m *mixer) text() string {
	lengths := []int{0, 0, 1, 1, 2, 3, 5, 18, 19, 20, 40, 300}
	length := func() int { return lengths[m.below(len(lengths))] }
	s := []string{"", "-"}[m.below(2)]
	digits := noughts(length()) + m.digits(length()) + noughts(length()) + []string{"", "."}[m.below(2)] + noughts(length()) + m.digits(length()) + noughts(length())
	if strings.Trim(digits, ".") == "" {
		digits += "0"
	}
	s += digits
	if m.below(3) > 0 {
		s += []string{"e", "E"}[m.below(2)] + []string{"", "+", "-"}[m.below(3)] + noughts(m.below(3)) + m.digits(1+m.below(4))
	}
	return s
}
