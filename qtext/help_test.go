package qtext_test

import (
	"math/big"
	"regexp"
	"slices"
	"strconv"
	"strings"
	"testing"

	"caliper/api"
	"caliper/qtext"
)

func toBig(n api.Nat) *big.Int {
	x := new(big.Int)
	for _, w := range slices.Backward(n) {
		x.Lsh(x, 64).Or(x, new(big.Int).SetUint64(w))
	}
	return x
}

func fromBig(n *big.Int) (words api.Nat) {
	mask := new(big.Int).SetUint64(1<<64 - 1)
	for x := new(big.Int).Set(n); x.Sign() != 0; x.Rsh(x, 64) {
		words = append(words, new(big.Int).And(x, mask).Uint64())
	}
	return words
}

func whole(n int64) *big.Int { return big.NewInt(n) }

func power(base int64, n int) *big.Int {
	return new(big.Int).Exp(big.NewInt(base), big.NewInt(int64(n)), nil)
}

// ones has so many bits, all of them 1.
func ones(bits int) *big.Int { return new(big.Int).Sub(power(2, bits), whole(1)) }

func zeros(n int) string { return strings.Repeat("0", n) }

func nines(n int) string { return strings.Repeat("9", n) }

// scaled is m times 2 to the power of e.
func scaled(m *big.Int, e int) *big.Rat {
	if e < 0 {
		return new(big.Rat).SetFrac(m, power(2, -e))
	}
	return new(big.Rat).SetInt(new(big.Int).Mul(m, power(2, e)))
}

// textOf is the text of a number that has at most so many digits behind the point.
func textOf(neg bool, x *big.Rat, places int) string {
	s := x.FloatString(places)
	if strings.Contains(s, ".") {
		s = strings.TrimRight(strings.TrimRight(s, "0"), ".")
	}
	if neg && x.Sign() != 0 {
		return "-" + s
	}
	return s
}

// numbers are the texts of numbers.
var numbers = regexp.MustCompile(`^-?([0-9]+(\.[0-9]*)?|\.[0-9]+)([eE][+-]?[0-9]+)?$`)

// told is an answer of Parse.
type told struct {
	neg bool
	m   string
	err api.Errno
}

// read is what Parse tells of a text whose power is of few digits, reckoned with fractions; a number that
// is too far, or that has too many digits, is not known to it.
func read(t *testing.T, s string, e int) told {
	t.Helper()
	if !numbers.MatchString(s) {
		return told{m: "0", err: api.ErrSyntax}
	}
	x, ok := new(big.Rat).SetString(s)
	if !ok {
		t.Fatal(brief(s))
	}
	size := new(big.Rat).Mul(new(big.Rat).Abs(x), scaled(whole(1), -e))
	switch {
	case !size.IsInt():
		return told{m: "0", err: api.ErrExact}
	case size.Num().BitLen() > qtext.MaxBits:
		return told{m: "0", err: api.ErrRange}
	}
	return told{x.Sign() < 0, size.Num().String(), api.OK}
}

func parse(t *testing.T, s string, e int) told {
	t.Helper()
	neg, m, err := qtext.Parse(s, e)
	if len(m) > 0 && m[len(m)-1] == 0 {
		t.Errorf("%s, %d: %v is not normal", brief(s), e, m)
	}
	return told{neg, toBig(m).String(), err}
}

func wantNumber(t *testing.T, s string, e int, neg bool, m *big.Int) {
	t.Helper()
	if got, want := parse(t, s, e), (told{neg, m.String(), api.OK}); got != want {
		t.Errorf("%s, %d: %v, want %v", brief(s), e, got, want)
	}
}

// wantError asks for that error, and for nothing beside it.
func wantError(t *testing.T, s string, e int, err api.Errno) {
	t.Helper()
	if neg, m, got := qtext.Parse(s, e); neg || len(m) != 0 || got != err {
		t.Errorf("%s, %d: %v, %v, %v, want %v", brief(s), e, neg, m, got, err)
	}
}

func wantText(t *testing.T, neg bool, m *big.Int, e int, want string) {
	t.Helper()
	if got, err := qtext.Text(neg, fromBig(m), e); got != want || err != api.OK {
		t.Errorf("%v, %x, %d: %s, %v, want %s", neg, m, e, brief(got), err, brief(want))
	}
}

// wantNoText asks for nothing but ErrArg.
func wantNoText(t *testing.T, neg bool, m api.Nat, e int) {
	t.Helper()
	if got, err := qtext.Text(neg, m, e); got != "" || err != api.ErrArg {
		t.Errorf("%v, %d words, %d: %s, %v", neg, len(m), e, brief(got), err)
	}
}

func brief(s string) string {
	if len(s) > 90 {
		return strconv.Quote(s[:40]) + ".." + strconv.Quote(s[len(s)-30:]) + " (" + strconv.Itoa(len(s)) + " bytes)"
	}
	return strconv.Quote(s)
}

// mixer tells numbers that look like any, and are always the same ones.
type mixer uint64

func (m *mixer) next() uint64 {
	*m = *m*6364136223846793005 + 1442695040888963407
	return uint64(*m ^ *m>>31)
}

func (m *mixer) below(n int) int { return int(m.next() >> 20 % uint64(n)) }

func (m *mixer) digits(n int) string {
	b := make([]byte, n)
	for i := range b {
		b[i] = byte('0' + m.below(10))
	}
	return string(b)
}

// of is a number of just so many bits.
func (m *mixer) of(bits int) *big.Int {
	x := new(big.Int)
	for range bits/64 + 1 {
		x.Lsh(x, 64).Or(x, new(big.Int).SetUint64(m.next()))
	}
	x.And(x, ones(bits))
	if bits > 0 {
		x.SetBit(x, bits-1, 1)
	}
	return x
}

// sizes are numbers of bits: of few, about the turns of words, and of many.
var sizes = []int{0, 1, 2, 3, 4, 7, 10, 31, 53, 63, 64, 65, 127, 128, 129, 500, 1023, 1024, 1199, 1200, 1201, 1900, 1983, 1984, 1985, 2046, 2047, 2048}

// exponents are from the least to the greatest.
var exponents = []int{-1200, -1199, -1137, -1136, -1000, -641, -320, -129, -128, -127, -65, -64, -63, -24, -10, -4, -3, -2, -1, 0, 1, 2, 3, 4, 9, 10, 63, 64, 65, 127, 128, 500, 999, 1000, 1136, 1199, 1200}

// noExponents are beyond them.
var noExponents = []int{-1201, 1201, -1202, 1202, -2048, 2048, 5000, -5000, 1 << 32, -1 << 32, 1<<32 + 5, 1<<40 - 3, -1 << 63, 1<<63 - 1, -1<<63 + 1200}
