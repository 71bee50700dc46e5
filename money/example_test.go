package money_test

import (
	"fmt"

	"engross/money"
)

// The example of README.md.
func Example() {
	fmt.Println(money.Mul(1<<62, 2))
	var s money.Sum
	s.AddMul(1<<62, 4)
	fmt.Println(s.Total())
	s.AddMul(-1<<62, 4)
	s.Add(101)
	fmt.Println(s.Total())
	fmt.Println(s.Share(50))
	// Output:
	// 0 false
	// 0 false
	// 101 true
	// 51 true
}
