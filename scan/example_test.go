package scan_test

import (
	"fmt"

	"caliper/api"
	"caliper/scan"
)

// README.md tells this.
func Example() {
	item, _, err := scan.Scan([]byte("-12.50e3"))
	word, _, _ := scan.Scan([]byte("-inf"))
	large, _, _ := scan.Scan([]byte("1e1000"))
	_, at, none := scan.Scan([]byte("1e"))
	fmt.Println(item.Kind == scan.Number, item.Neg, item.D, item.K, err == api.OK)
	fmt.Println(word.Kind == scan.Inf, word.Neg, large.Big, large.D, at, none == api.ErrSyntax)
	// Output:
	// true true [125] 2 true
	// true true 1 [] 2 true
}
