package head_test

import (
	"fmt"

	"engross/api"
	"engross/head"
)

// The example of README.md.
func Example() {
	a := api.Head{Index: 0, First: 0, Count: 3, Bytes: 40, Prev: head.First(4), Root: "abcd"}
	b := api.Head{Index: 1, First: 3, Count: 1, Bytes: 9, Prev: head.Hash(a, 4), Root: "efgh"}
	s, e := head.Chain([]api.Head{a, b}, 4)
	fmt.Println(s == head.Hash(b, 4), e)
	_, e = head.Chain([]api.Head{b}, 4)
	fmt.Println(e == api.ErrChain)
	got, e := head.Get(head.Put(b), 4)
	fmt.Println(got == b, e)
	_, e = head.Get(head.Put(b), 5)
	fmt.Println(e == api.ErrForm, head.May(b, 4), head.May(b, 5))
	// Output:
	// true 0
	// true
	// true 0
	// true true false
}
