package trans_test

import (
	"fmt"

	"caliper/api"
	"caliper/trans"
)

// README.md tells this.
func Example() {
	p, err := trans.Turn(api.Binary64, api.Binary32, api.Special, 0x3FB999999999999A)
	nar, _ := trans.Turn(api.Binary32, api.Posit8, api.Special, 0x7F800000)
	most, _ := trans.Turn(api.Binary32, api.E4M3, api.Saturate, 0xFF800000)
	none, _ := trans.Turn(api.Binary32, api.E2M1, api.Special, 0x7FC00000)
	is, _ := trans.Just(api.E4M3, api.Binary16, 0x81)
	lost, _ := trans.Just(api.E4M3, api.Posit8, 0x80)
	_, wide := trans.Turn(api.E2M1, api.Posit8, api.Special, 0x10)
	fmt.Printf("%X %v %X %X %X\n", p, err == api.OK, nar, most, none)
	fmt.Println(is, lost, wide == api.ErrArg)
	// Output:
	// 3DCCCCCD true 80 FE 0
	// true false true
}
