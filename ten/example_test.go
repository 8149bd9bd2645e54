package ten_test

import (
	"fmt"

	"caliper/nat"
	"caliper/ten"
)

// README.md tells this.
func Example() {
	p := ten.Pow10(20)
	k := ten.Log10Of2(64)
	e := ten.Log2Of10(20)
	hi, lo, by := ten.Significand(1)
	fmt.Printf("%s %d %d %X %X %d %v\n", nat.Text(p), k, e, hi, lo, by, ten.Check())
	// Output: 100000000000000000000 19 66 A000000000000000 0 -124 true
}
