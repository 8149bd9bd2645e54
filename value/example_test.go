package value_test

import (
	"fmt"

	"caliper/api"
	"caliper/value"
)

// README.md tells this.
func Example() {
	v, err := value.Decode(api.Posit8, 0xB4)
	neg, key, _ := value.Key(api.Posit8, 0xB4)
	p, _ := value.Pattern(api.Posit8, true, 0x4C)
	most, _ := value.Most(api.E4M3, false)
	m, e, _ := value.At(api.E4M3, most)
	half, by, _ := value.Between(api.E4M3, most)
	_, _, above := value.At(api.E4M3, most+1)
	fmt.Printf("%+v %v\n", v, err == api.OK)
	fmt.Printf("%v %X %X\n", neg, key, p)
	fmt.Printf("%X %d %d %d %d %v\n", most, m, e, half, by, above == api.ErrRange)
	// Output:
	// {Class:2 Neg:true M:3 E:0} true
	// true 4C B4
	// 7E 7 6 29 4 true
}
