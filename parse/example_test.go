package parse_test

import (
	"fmt"

	"caliper/api"
	"caliper/parse"
)

// README.md tells this.
func Example() {
	p, _, err := parse.Parse(api.E4M3, api.Special, "464")
	over, _, _ := parse.Parse(api.E4M3, api.Special, "-464.1")
	most, _, _ := parse.Parse(api.E4M3, api.Saturate, "-464.1")
	least, _, _ := parse.Parse(api.Posit8, api.Special, "1e-99")
	_, begins, none := parse.Parse(api.E4M3, api.Special, "-inf")
	_, at, wrong := parse.Parse(api.E4M3, api.Special, "1.5.")
	fmt.Printf("%X %v %X %X %X\n", p, err == api.OK, over, most, least)
	fmt.Println(begins, none == api.ErrNone, at, wrong == api.ErrSyntax)
	// Output:
	// 7E true 7F FE 1
	// 1 true 3 true
}
