package snap_test

import (
	"fmt"

	"engross/api"
	"engross/book"
	"engross/snap"
)

// The example of README.md.
func Example() {
	b := book.SetHolder(api.Book{Count: 3}, api.Holder{Id: 5, Cash: 100})
	b = book.SetRate(b, api.Rate{Sym: 7, Price: 3})
	s, e := snap.Put(b)
	fmt.Println([]byte(s), e)
	got, e := snap.Get(s)
	fmt.Println(book.Same(got, b), e)
	_, e = snap.Get(s[:9])
	fmt.Println(e == api.ErrShort)
	_, e = snap.Get(s + "\x00")
	fmt.Println(e == api.ErrForm)
	_, e = snap.Put(book.SetRate(b, api.Rate{Sym: 8}))
	fmt.Println(e == api.ErrArg)
	// Output:
	// [3 1 10 1 1 200 1 1 1 0 1 1 0 1 0 0 0 0 0 0 0 0 0 1 14 1 1 6 1] 0
	// true 0
	// true
	// true
	// true
}
