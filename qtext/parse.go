package qtext

import (
	"caliper/api"
	"caliper/nat"
	"caliper/scan"
)

// Parse is the number of a text: is it below 0, and the whole number that is its size, times 2 to the
// power of e (P2). The inner functions answer no errors, but panic with them.
func Parse(s string, e int) (neg bool, m api.Nat, err api.Errno) {
	// This stays, if what is panicked with is no error of these: none such is known, but none goes out.
	err = api.ErrArg
	defer func() {
		if wrong, ok := recover().(api.Errno); ok {
			err = wrong
		}
	}()
	must(isNear(e), api.ErrArg)
	number := numberOf(s)
	whole := wholeOf(number, e)
	must(nat.Bits(whole) <= MaxBits, api.ErrRange)
	return number.Neg && nat.Bits(whole) > 0, whole, api.OK
}

// numberOf is what Scan tells of a text of a number.
func numberOf(s string) scan.Item {
	item, _, err := scan.Scan([]byte(s))
	must(err == api.OK && item.Kind == scan.Number, api.ErrSyntax)
	return item
}

// wholeOf is how often 2 to the power of e goes into the size of a number, which has to go out. The
// twos and the fives of its tens may be taken one behind the other, since neither makes up for the other.
func wholeOf(number scan.Item, e int) api.Nat {
	must(number.Big == 0 && !number.Cut, api.ErrExact)
	return times(times(number.D, 5, number.K), 2, number.K-e)
}

// times is n times base to the power of k, which has to be whole.
func times(n api.Nat, base uint64, k int) api.Nat {
	if k >= 0 {
		return nat.Mul(n, nat.Pow(base, k))
	}
	often, left, _ := nat.Div(n, nat.Pow(base, -k))
	must(nat.Bits(left) == 0, api.ErrExact)
	return often
}

// must panics with that error, if something does not hold.
func must(holds bool, err api.Errno) {
	if !holds {
		panic(err)
	}
}
