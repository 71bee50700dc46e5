package column_test

import (
	"fmt"

	"engross/api"
	"engross/column"
)

// The example of README.md.
func Example() {
	l := []int64{5, 6, 7, 7}
	fmt.Println(column.Runs(l))
	s, e := column.Put(l)
	fmt.Println([]byte(s), e)
	got, size, e := column.Get(s+"more", 9)
	fmt.Println(got, size, e)
	_, _, e = column.Get(s, 3)
	fmt.Println(e == api.ErrMany)
	_, _, e = column.Get(s[:5], 9)
	fmt.Println(e == api.ErrShort)
	_, _, e = column.Get("\x02\x02\x01\x02\x01", 9)
	fmt.Println(e == api.ErrForm)
	// Output:
	// [[5 1] [1 2] [0 1]]
	// [4 10 1 2 2 0 1] 0
	// [5 6 7 7] 7 0
	// true
	// true
	// true
}
