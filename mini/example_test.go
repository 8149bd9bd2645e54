package mini_test

import (
	"fmt"

	"caliper/api"
	"caliper/mini"
)

// README.md tells this.
func Example() {
	field, mantissa, err := mini.Split(3, 0x3C)
	m, e, _ := mini.Value(3, 7, 0x3C)
	key, _ := mini.Key(3, 7, 12, -3)
	_, not := mini.Key(3, 7, 17, 0)
	fmt.Printf("%d %d %v\n", field, mantissa, err == api.OK)
	fmt.Printf("%d %d %X %v\n", m, e, key, not == api.ErrExact)
	// Output:
	// 7 4 true
	// 3 -1 3C true
}
