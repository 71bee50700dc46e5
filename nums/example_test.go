package nums_test

import (
	"fmt"

	"engross/api"
	"engross/nums"
)

// The example of README.md.
func Example() {
	s := nums.Num(300) + nums.Int(-3) + nums.Row("ab")
	r := nums.Read(s)
	n, i, row := r.Num(1000), r.Int(), r.Row(10)
	if e := r.Fault(); e != api.OK || r.Left() > 0 {
		fmt.Println(e, r.Left())
	}
	fmt.Println([]byte(s), n, i, row)
	// Output: [172 2 5 2 97 98] 300 -3 ab
}
