package clash_test

import (
	"fmt"

	"engross/clash"
	"engross/sha"
)

// The example of README.md.
func Example() {
	x, y, e := clash.Find([]string{"p", "1"}, []string{"p", "11"}, 1)
	fmt.Printf("%q %q %d\n", x, y, e)
	a, _ := sha.Cut(x, 1)
	b, _ := sha.Cut(y, 1)
	fmt.Println(x != y, a == b)
	// Output:
	// "\x001" "\x0011" 0
	// true true
}
