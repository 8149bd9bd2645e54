package print_test

import (
	"fmt"

	"caliper/api"
	"caliper/print"
)

// README.md tells this.
func Example() {
	s, err := print.Print(api.Posit8, 0x41)
	all, _ := print.PrintFull(api.Posit8, 0x41)
	tenth, _ := print.Print(api.Binary64, 0x3FB999999999999A)
	nar, _ := print.Print(api.Posit8, 0x80)
	inf, _ := print.Print(api.E5M2, 0xFC)
	_, wide := print.Print(api.E5M2, 0x100)
	fmt.Println(s, err == api.OK, all, tenth)
	fmt.Println(nar, inf, wide == api.ErrArg)
	// Output:
	// 1.1 true 1.125 0.1
	// NaR -inf true
}
