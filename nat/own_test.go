package nat_test

import (
	"slices"
	"testing"

	"caliper/api"
	"caliper/nat"
)

// calls are all that are handed a number or two, with what they answer in numbers.
func calls() map[string]func(a, b api.Nat) []api.Nat {
	one := func(n api.Nat) []api.Nat { return []api.Nat{n} }
	return map[string]func(a, b api.Nat) []api.Nat{
		"Norm": func(a, b api.Nat) []api.Nat { return []api.Nat{nat.Norm(a...), nat.Norm(b...)} },
		"Word": func(a, b api.Nat) []api.Nat { nat.Word(a); return nil },
		"Bits": func(a, b api.Nat) []api.Nat { nat.Bits(a); return nil },
		"Bit":  func(a, b api.Nat) []api.Nat { nat.Bit(a, 64); return nil },
		"Even": func(a, b api.Nat) []api.Nat { nat.Even(a); return nil },
		"Cmp":  func(a, b api.Nat) []api.Nat { nat.Cmp(a, b); return nil },
		"Text": func(a, b api.Nat) []api.Nat { nat.Text(a); return nil },
		"Add":  func(a, b api.Nat) []api.Nat { return one(nat.Add(a, b)) },
		"Mul":  func(a, b api.Nat) []api.Nat { return one(nat.Mul(a, b)) },
		"Shl": func(a, b api.Nat) []api.Nat {
			return []api.Nat{nat.Shl(a, 0), nat.Shl(a, -1), nat.Shl(a, 1), nat.Shl(a, 64)}
		},
		"Shr": func(a, b api.Nat) []api.Nat {
			return []api.Nat{nat.Shr(a, 0), nat.Shr(a, -1), nat.Shr(a, 1), nat.Shr(a, 64)}
		},
		"Sub": func(a, b api.Nat) []api.Nat {
			rest, _ := nat.Sub(a, b)
			return one(rest)
		},
		"Div": func(a, b api.Nat) []api.Nat {
			often, left, _ := nat.Div(a, b)
			return []api.Nat{often, left}
		},
	}
}

// What is handed in stays, behind its end too; what is answered is neither a part of it, nor of another answer.
func TestOwn(t *testing.T) {
	lists := [][]uint64{{}, {0}, {1}, {5, 0}, {7, 8}, {0, 1}, {9, most, 3}, {6, 5, half, 0, 0}, {1, 2, 3, 4, 5}}
	for name, call := range calls() {
		for _, x := range lists {
			for _, y := range lists {
				a, wholeA := owned(x...)
				b, wholeB := owned(y...)
				keptA, keptB := slices.Clone(wholeA), slices.Clone(wholeB)
				answers := call(a, b)
				wantNat(t, wholeA, keptA, name, x, y, "changed what was handed in")
				wantNat(t, wholeB, keptB, name, x, y, "changed what was handed in")
				wantApart(t, answers, name, x, y)
				wantNat(t, wholeA, keptA, name, x, y, "answered what was handed in")
				wantNat(t, wholeB, keptB, name, x, y, "answered what was handed in")
			}
		}
	}
}

// wantApart writes over each answer, and behind its end, and asks for the others as they were.
func wantApart(t *testing.T, answers []api.Nat, of ...any) {
	t.Helper()
	kept := make([]api.Nat, len(answers))
	for i, answer := range answers {
		kept[i] = slices.Clone(answer)
	}
	for i, answer := range answers {
		wipe(append(answer, 1, 2, 3))
		wipe(answer)
		for j := i + 1; j < len(answers); j++ {
			wantNat(t, answers[j], kept[j], of, "shares its answers")
		}
	}
}

// An answer stays what it is when the owner of the arguments writes over them.
func TestNotKept(t *testing.T) {
	for name, call := range calls() {
		a, b := api.Nat{9, most, 3, 0}, api.Nat{4, 2}
		answers := call(a, b)
		want := call(slices.Clone(a), slices.Clone(b))
		wipe(a)
		wipe(b)
		for i := range answers {
			wantNat(t, answers[i], want[i], name)
		}
	}
}

// The same number may be handed in twice.
func TestBothTheSame(t *testing.T) {
	for name, call := range calls() {
		for _, x := range []api.Nat{nil, {1}, {5, 0}, {9, most, 3}} {
			a := slices.Clone(x)
			got, want := call(a, a), call(slices.Clone(x), slices.Clone(x))
			wantNat(t, a, x, name)
			for i := range got {
				wantNat(t, got[i], want[i], name, x)
			}
		}
	}
}

// The same calls have the same answers, and what one call answered does not touch the next ones.
func TestSameAgain(t *testing.T) {
	wipe(nat.Of(1))
	wipe(nat.Pow(10, 0))
	wipe(nat.Pow(10, 30))
	first, _ := nat.Parse("123456789012345678901234567890")
	text := nat.Text(first)
	wipe(first)
	again, ok := nat.Parse("123456789012345678901234567890")
	if !ok || text != "123456789012345678901234567890" || nat.Text(again) != text {
		t.Errorf("%s, %s, %v", text, nat.Text(again), ok)
	}
	wantNat(t, nat.Of(1), api.Nat{1}, "Of 1")
	wantNat(t, nat.Pow(10, 0), api.Nat{1}, "Pow 10 0")
	if got := nat.Text(nat.Pow(10, 30)); got != "1000000000000000000000000000000" {
		t.Errorf("Pow 10 30: %s", got)
	}
}
