package round_test

import (
	"fmt"

	"caliper/api"
	"caliper/exact"
	"caliper/nat"
	"caliper/round"
)

// README.md tells this.
func Example() {
	x, _ := exact.Dec(false, nat.Of(4641), -1)
	p, err := round.Round(api.E4M3, api.Special, x)
	most, _ := round.Round(api.E4M3, api.Saturate, x)
	key, over, _ := round.Nearest(api.Int8, true, x)
	low, high, even, _ := round.Limits(api.E4M3, 0x7E)
	_, _, _, none := round.Limits(api.E4M3, 0x80)
	fmt.Printf("%X %v %X %X %v\n", p, err == api.OK, most, key, over)
	fmt.Println(low.N, low.Two, high.N, high.Two, even, none == api.ErrNone)
	// Output:
	// 7F true 7E 80 true
	// [27] 4 [29] 4 true true
}
