package book_test

import (
	"fmt"

	"engross/api"
	"engross/book"
)

// The example of README.md.
func Example() {
	b := book.SetHolder(api.Book{}, api.Holder{Id: 5, Cash: 100})
	b = book.SetRate(b, api.Rate{Sym: 7, Price: 3})
	c := book.SetStake(b, api.Stake{Acc: 5, Sym: 7, Qty: -2})
	fmt.Println(book.Holder(c, 5))
	fmt.Println(book.Rate(c, 8))
	fmt.Println(book.Stake(c, 5, 7), book.Stake(b, 5, 7))
	fmt.Println(book.Same(b, book.SetStake(c, api.Stake{Acc: 5, Sym: 7})))
	fmt.Println(book.May(c), book.May(book.SetStake(c, api.Stake{Acc: 6, Sym: 7, Qty: 1})))
	// Output:
	// {5 100 0 0} true
	// 0 false
	// -2 0
	// true
	// true false
}
