package quire_test

import (
	"fmt"

	"caliper/api"
	"caliper/quire"
)

// README.md tells this.
func Example() {
	q, err := quire.New(api.Posit8)
	q.Add(0x40, 0x4C)
	q.Sub(0x01, 0x01)
	p := q.Posit()
	b := q.Bits()
	q.Add(0x01, 0x01)
	x, ok := q.Value()
	fmt.Printf("%v %d %X %X %v\n", err == api.OK, q.Size(), p, b, ok)
	fmt.Println(x.N, x.Two, x.Five)

	lost := q.Load(api.Exact{N: api.Nat{1}, Five: -1})
	wide := q.Add(0x100, 0x40)
	q.Add(0x80, 0x40)
	q.Add(0x40, 0x40)
	nar := q.Posit()
	_, none := q.Value()
	fmt.Printf("%v %v %X %v\n", lost == api.ErrExact, wide == api.ErrArg, nar, none)
	back := q.Set(b)
	fmt.Println(back == api.OK, q.NaR())
	// Output:
	// true 128 4C [2FFFFFFFFFFFF] true
	// [3] 0 0
	// true true 80 false
	// true false
}
