package exact_test

import (
	"fmt"

	"caliper/api"
	"caliper/exact"
	"caliper/nat"
)

// README.md tells this.
func Example() {
	x, _ := exact.Of(api.Value{Class: api.Finite, M: 5, E: -2})
	y, ok := exact.Dec(false, nat.Of(125), -2)
	n, left := exact.Floor(x, 0)
	fmt.Println(exact.Cmp(x, y), ok, nat.Text(n), left, exact.Log10(x))
	// Output: 0 true 1 1 0
}
