package qtext_test

import (
	"fmt"

	"caliper/api"
	"caliper/nat"
	"caliper/qtext"
)

// README.md tells this.
func Example() {
	s, err := qtext.Text(true, nat.Of(5), -2)
	large, _ := qtext.Text(false, nat.Of(3), 70)
	_, wide := qtext.Text(false, nat.Of(1), 1201)
	fmt.Println(s, err == api.OK, large, wide == api.ErrArg)
	neg, m, _ := qtext.Parse("-12.50e-1", -3)
	_, _, none := qtext.Parse("1.25", -1)
	_, _, tenth := qtext.Parse("0.1", -1200)
	_, _, many := qtext.Parse("1e900", 0)
	_, _, wrong := qtext.Parse("inf", 0)
	fmt.Println(neg, nat.Text(m), none == api.ErrExact, tenth == api.ErrExact, many == api.ErrRange, wrong == api.ErrSyntax)
	// Output:
	// -1.25 true 3541774862152233910272 true
	// true 10 true true true true
}
