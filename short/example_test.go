package short_test

import (
	"fmt"

	"caliper/api"
	"caliper/nat"
	"caliper/short"
)

// README.md tells this.
func Example() {
	d, err := short.Short(api.Posit8, 0x41)
	all, _ := short.Full(api.Posit8, 0x41)
	tenth, _ := short.Short(api.Binary64, 0x3FB999999999999A)
	_, none := short.Short(api.E4M3, 0x80)
	_, wide := short.Full(api.E4M3, 0x100)
	fmt.Println(nat.Text(d.D), d.K, err == api.OK)
	fmt.Println(nat.Text(all.D), all.K)
	fmt.Println(nat.Text(tenth.D), tenth.K)
	fmt.Println(none == api.ErrNone, wide == api.ErrArg)
	// Output:
	// 11 -1 true
	// 1125 -3
	// 1 -1
	// true true
}
