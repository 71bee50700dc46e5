package margin_test

import (
	"fmt"

	"engross/api"
	"engross/book"
	"engross/margin"
)

// The example of README.md.
func Example() {
	b := book.SetHolder(api.Book{}, api.Holder{Id: 1, Cash: 10})
	b = book.SetRate(b, api.Rate{Sym: 2, Price: 5})
	b = book.SetStake(b, api.Stake{Acc: 1, Sym: 2, Qty: 3})
	o := api.Open{Id: 4, Acc: 1, Sym: 2, Side: 0, Left: 2, Price: 4}
	b = book.SetOpen(b, o)
	fmt.Println(margin.Equity(b, 1))
	fmt.Println(margin.Need(b, 1, 1, 7, 50))
	fmt.Println(margin.Reach(b, 1, 2, 0, 1))
	fmt.Println(margin.Reach(b, 1, 2, 1, 1))
	fmt.Println(margin.After(b, o, 2, 4))
	fmt.Println(margin.Need(b, 1, 1, 7, 1001))
	fmt.Println(margin.Reach(b, 1, 2, 2, 1))
	// Output:
	// 25 true
	// 15 true
	// 6 true
	// -2 true
	// 2 5 true true
	// 0 false
	// 0 false
}
