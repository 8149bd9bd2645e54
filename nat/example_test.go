package nat_test

import (
	"fmt"

	"caliper/nat"
)

// README.md tells this.
func Example() {
	a, ok := nat.Parse("18446744073709551616")
	q, r, _ := nat.Div(nat.Pow(10, 30), a)
	s := nat.Text(nat.Add(nat.Mul(q, a), r))
	fmt.Println(ok, nat.Text(q), nat.Text(r), s)
	// Output: true 54210108624 5076944270305263616 1000000000000000000000000000000
}
