package forms_test

import (
	"fmt"

	"caliper/api"
	"caliper/forms"
)

// README.md tells this.
func Example() {
	f, err := forms.Of(api.E5M2)
	p, _ := forms.Canon(api.E5M2, 0xFF)
	wide := forms.Fits(api.E5M2, 0x100)
	fmt.Printf("%d %d %X %v\n", f.Width, f.Man, f.Top, err == api.OK)
	fmt.Printf("%X %X %X %v\n", f.Mask(), f.Sign(), p, wide == api.ErrArg)
	// Output:
	// 8 2 7B true
	// FF 80 7E true
}
