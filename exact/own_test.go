package exact_test

import (
	"slices"
	"testing"

	"caliper/api"
	"caliper/exact"
)

// calls are all that are handed words, with what they answer in words.
func calls() map[string]func(a, b api.Exact) api.Nat {
	return map[string]func(a, b api.Exact) api.Nat{
		"Right":     func(a, b api.Exact) api.Nat { exact.Right(a); return nil },
		"Cmp":       func(a, b api.Exact) api.Nat { exact.Cmp(a, b); return nil },
		"CmpSigned": func(a, b api.Exact) api.Nat { exact.CmpSigned(a, b); return nil },
		"Log10":     func(a, b api.Exact) api.Nat { exact.Log10(a); return nil },
		"Reduced":   func(a, b api.Exact) api.Nat { return exact.Reduced(a).N },
		"Dec": func(a, b api.Exact) api.Nat {
			x, _ := exact.Dec(a.Neg, a.N, a.Two)
			return x.N
		},
		"Floor": func(a, b api.Exact) api.Nat {
			often, _ := exact.Floor(a, b.Two)
			return often
		},
	}
}

// held is a number whose words have others behind them, so that a call that writes there is found out.
func held(n api.Nat, two int) (x api.Exact, whole api.Nat) {
	whole = append(slices.Clone(n), 71, 72, 73)
	return long(whole[:len(n)], two, 0), whole
}

// What is handed in stays, behind its end too, and is neither kept nor answered.
func TestOwn(t *testing.T) {
	lists := []api.Nat{{}, {1}, {7, 8}, {10, 1}, {0, 1}, {9, most, 3}, {1, 2, 3, 4, 5}, {5, 0}, words(128)}
	for name, call := range calls() {
		for _, first := range lists {
			for _, second := range lists {
				a, wholeA := held(first, 0)
				b, wholeB := held(second, 1)
				keptA, keptB := slices.Clone(wholeA), slices.Clone(wholeB)
				answer := call(a, b)
				wantNat(t, wholeA, keptA, name, first, second, "changed what was handed in")
				wantNat(t, wholeB, keptB, name, first, second, "changed what was handed in")
				kept := slices.Clone(answer)
				clear(wholeA)
				clear(wholeB)
				wantNat(t, answer, kept, name, first, second, "answered what was handed in")
				a, _ = held(first, 0)
				b, _ = held(second, 1)
				wantNat(t, call(a, b), kept, name, first, second, "kept what was handed in")
			}
		}
	}
}

// What was answered once is written over, and the next answers are as they were.
func TestSameAgain(t *testing.T) {
	x, y := num(12000, -3, 1), num(3, 7, 0)
	for name, call := range calls() {
		first := call(x, y)
		kept := slices.Clone(first)
		clear(first)
		wantNat(t, call(x, y), kept, name)
	}
	one, _ := exact.Of(api.Value{Class: api.Finite, M: 1})
	clear(one.N)
	again, _ := exact.Of(api.Value{Class: api.Finite, M: 1})
	wantNat(t, again.N, api.Nat{1}, "Of")
}

// Of numbers that are not right nothing is promised but that it ends: no call panics.
func TestWrongNumbersEnd(t *testing.T) {
	list := append(wrong(), api.Exact{}, num(3, 5000, -5000), long(full(128), 5000, 5000))
	for _, a := range list {
		exact.Reduced(a)
		exact.Log10(a)
		for _, k := range []int{minInt, -5000, 0, 5000, maxInt} {
			exact.Floor(a, k)
		}
	}
	for i := 0; i < len(list); i += 3 {
		for j := 0; j < len(list); j += 5 {
			exact.Cmp(list[i], list[j])
			exact.CmpSigned(list[j], list[i])
		}
	}
}
