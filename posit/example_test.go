package posit_test

import (
	"fmt"

	"caliper/api"
	"caliper/posit"
)

// README.md tells this.
func Example() {
	f, err := posit.Split(8, 0x4C)
	back, _ := posit.Join(8, f)
	m, e, _ := posit.Value(8, 0x4C)
	key, _ := posit.Key(8, 6, -1)
	_, not := posit.Key(8, 33, 0)
	fmt.Printf("%+v %v %X\n", f, err == api.OK, back)
	fmt.Printf("%d %d %X %v\n", m, e, key, not == api.ErrExact)
	// Output:
	// {Regime:0 Exp:1 Frac:4 Bits:3} true 4C
	// 3 0 4C true
}
