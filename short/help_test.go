package short_test

import (
	"math"
	"math/big"
	"slices"
	"strconv"
	"testing"

	"caliper/api"
	"caliper/exact"
	"caliper/forms"
	"caliper/nat"
	"caliper/round"
	"caliper/short"
	"caliper/value"
)

// noForms are numbers of no form.
var noForms = []int{0, 15, 16, 99, -1, -14, 256 + 1, 1<<32 + 1, math.MinInt32, math.MaxInt32, math.MinInt, math.MaxInt}

// calls are what answers digits, by its name.
var calls = map[string]func(int, uint64) (api.Digits, api.Errno){"Short": short.Short, "Full": short.Full}

func toBig(n api.Nat) *big.Int {
	x := new(big.Int)
	for i := len(n) - 1; i >= 0; i-- {
		x.Lsh(x, 64).Or(x, new(big.Int).SetUint64(n[i]))
	}
	return x
}

// wantDigits asks for digits that are right, and are just these.
func wantDigits(t *testing.T, call string, form int, p uint64, neg bool, digits string, k int) {
	t.Helper()
	d, err := calls[call](form, p)
	if len(d.D) > 0 && d.D[len(d.D)-1] == 0 {
		t.Errorf("%s of %d, %X: %v has noughts at its end", call, form, p, d.D)
	}
	if toBig(d.D).String() != digits || d.K != k || d.Neg != neg || err != api.OK {
		t.Errorf("%s of %d, %X: %v %v, %d, %v, want %v %s, %d", call, form, p, d.Neg, toBig(d.D), d.K, err, neg, digits, k)
	}
}

// wantNone asks both calls for that error, and for nothing beside it.
func wantNone(t *testing.T, form int, p uint64, want api.Errno) {
	t.Helper()
	for name, call := range calls {
		if d, err := call(form, p); d.Neg || len(d.D) > 0 || d.K != 0 || err != want {
			t.Errorf("%s of %d, %X: %v, %v, want %v", name, form, p, d, err, want)
		}
	}
}

// number is a pattern that is Finite, and what it means, in digits times 10 to the power of k.
type number struct {
	form   int
	p      uint64
	neg    bool
	digits string
	k      int
}

// numberAt is the number of a sign and a key.
func numberAt(f forms.Form, form int, neg bool, key uint64) number {
	m, e, err := value.At(form, key)
	if err != api.OK || m == 0 {
		panic(strconv.Itoa(form) + " has no number of key " + strconv.FormatUint(key, 16))
	}
	n, k := new(big.Int).SetUint64(m), min(e, 0)
	n.Lsh(n, uint(max(e, 0)))
	n.Mul(n, new(big.Int).Exp(big.NewInt(5), big.NewInt(int64(-k)), nil))
	digits := n.String()
	for digits[len(digits)-1] == '0' {
		digits, k = digits[:len(digits)-1], k+1
	}
	return number{form, patternOf(f, neg, key), neg, digits, k}
}

// has is whether Round has the number's pattern of d times 10 to the power of k.
func (n number) has(d *big.Int, k int) bool {
	digits, ok := nat.Parse(d.String())
	x, right := exact.Dec(n.neg, digits, k)
	p, err := round.Round(n.form, api.Special, x)
	return ok && right && p == n.p && err == api.OK
}

// rat is d times 10 to the power of k.
func rat(d *big.Int, k int) *big.Rat {
	power := new(big.Int).Exp(big.NewInt(10), big.NewInt(int64(max(k, -k))), nil)
	if k < 0 {
		return new(big.Rat).SetFrac(d, power)
	}
	return new(big.Rat).SetInt(power.Mul(power, d))
}

// meant is the size of what the pattern means.
func (n number) meant() *big.Rat {
	d, _ := new(big.Int).SetString(n.digits, 10)
	return rat(d, n.k)
}

func formOf(form int) forms.Form {
	f, err := forms.Of(form)
	if err != api.OK {
		panic(err)
	}
	return f
}

// signs are those that numbers of the form may have.
func signs(f forms.Form) []bool {
	if f.Kind == forms.Scale {
		return []bool{false}
	}
	return []bool{false, true}
}

func mostOf(f forms.Form, neg bool) uint64 {
	if f.Kind == forms.Turned && neg {
		return 128
	}
	return f.Top
}

// leastOf is the least key of a number that is not nought.
func leastOf(f forms.Form) uint64 {
	if f.Kind == forms.Scale {
		return 0
	}
	return 1
}

// patternOf is the pattern of a key.
func patternOf(f forms.Form, neg bool, key uint64) uint64 {
	switch {
	case !neg:
		return key
	case f.Kind == forms.Signed:
		return key + 1<<(f.Width-1)
	}
	return -key & (math.MaxUint64 >> (64 - f.Width))
}

// keysOf are keys from least to most, rising: all of few; of many some everywhere, and those about each turn of a bit.
func keysOf(least, most uint64) []uint64 {
	list := []uint64{least, most}
	if most < 1<<8 {
		for key := range most {
			list = append(list, key)
		}
	} else {
		mixed := most
		for i := range uint64(64) {
			turn := uint64(1) << i
			list = append(list, turn-1, turn, turn+1, turn|turn<<1, turn|turn>>1, most-turn, most-turn+1)
			for range 6 {
				mixed = mixed*6364136223846793005 + 1442695040888963407
				list = append(list, mixed>>i, most-mixed>>i, (mixed^mixed>>31)&most)
			}
		}
	}
	list = slices.DeleteFunc(list, func(key uint64) bool { return key < least || key > most })
	slices.Sort(list)
	return slices.Compact(list)
}

// eachNumber goes through numbers of a form, of both signs.
func eachNumber(form int, do func(n number)) {
	f := formOf(form)
	for _, neg := range signs(f) {
		for _, key := range keysOf(leastOf(f), mostOf(f, neg)) {
			do(numberAt(f, form, neg, key))
		}
	}
}
