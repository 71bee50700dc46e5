package diff_test

import (
	"fmt"

	"engross/api"
	"engross/book"
	"engross/diff"
)

// The example of README.md.
func Example() {
	a := book.SetHolder(api.Book{Count: 3}, api.Holder{Id: 5, Cash: 100})
	b := book.SetRate(book.SetHolder(a, api.Holder{Id: 5, Cash: 90}), api.Rate{Sym: 7, Price: 3})
	l, e := diff.Diff(a, b)
	fmt.Println(l, e)
	c, e := diff.Patch(a, l)
	fmt.Println(book.Same(c, b), e)
	c, e = diff.Patch(b, diff.Turn(l))
	fmt.Println(book.Same(c, a), e)
	_, e = diff.Patch(b, l)
	fmt.Println(e == api.ErrNone)
	_, e = diff.Patch(a, append(l, l[0]))
	fmt.Println(e == api.ErrForm)
	// Output:
	// [{1 5 0 [100 0 0] [90 0 0]} {4 7 0 [] [3]}] 0
	// true 0
	// true 0
	// true
	// true
}
