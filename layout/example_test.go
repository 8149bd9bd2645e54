package layout_test

import (
	"fmt"

	"caliper/api"
	"caliper/layout"
	"caliper/nat"
)

// README.md tells this.
func Example() {
	s := layout.Layout(api.Digits{Neg: true, D: nat.Of(125), K: -2})
	large := layout.Layout(api.Digits{D: nat.Of(1), K: 21})
	right := layout.Right(api.Digits{D: nat.Of(10)})
	d, err := layout.Unlay("-7000")
	_, none := layout.Unlay("7.0")
	fmt.Println(s, large, right)
	fmt.Println(d.Neg, nat.Text(d.D), d.K, err == api.OK, none == api.ErrSyntax)
	// Output:
	// -1.25 1e21 false
	// true 7 3 true true
}
