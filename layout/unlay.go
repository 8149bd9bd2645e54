package layout

import (
	"strconv"
	"strings"

	"caliper/api"
	"caliper/nat"
)

// Unlay is the digits of a text that Layout tells (L2). The inner functions answer digits alone, and
// panic with what is wrong.
func Unlay(s string) (d api.Digits, err api.Errno) {
	defer func() {
		if recover() != nil {
			d, err = api.Digits{}, api.ErrSyntax
		}
	}()
	return digitsOf(s), api.OK
}

// digitsOf is the digits of s. They are read loosely, and then held against s: so it is Layout alone
// that says how digits are written.
func digitsOf(s string) api.Digits {
	size, neg := strings.CutPrefix(s, "-")
	d := sizeOf(size)
	d.Neg = neg
	must(Right(d) && Layout(d) == s)
	return d
}

// sizeOf is the digits of a text without a sign, be they right or not.
func sizeOf(s string) api.Digits {
	all, power, hasPower := strings.Cut(s, "e")
	whole, frac, _ := strings.Cut(all, ".")
	ahead := strings.TrimLeft(join(whole, frac), "0")
	digits := strings.TrimRight(ahead, "0")
	if digits == "" {
		return api.Digits{}
	}
	n, ok := nat.Parse(digits)
	must(ok)
	k := len(ahead) - len(digits) - len(frac)
	if hasPower {
		by, err := strconv.Atoi(power)
		must(err == nil)
		// A sum that runs over is as far off as a power that is not right.
		k += by
	}
	return api.Digits{D: n, K: k}
}

// must panics, if that does not hold.
func must(holds bool) {
	if !holds {
		panic(api.ErrSyntax)
	}
}
