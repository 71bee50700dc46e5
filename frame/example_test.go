package frame_test

import (
	"fmt"

	"engross/api"
	"engross/frame"
)

// The example of README.md.
func Example() {
	s, e := frame.Wrap("ab")
	fmt.Println([]byte(s), e)
	row, size, e := frame.Next(s + "more")
	fmt.Println(row, size, e)
	_, _, e = frame.Next(s[:3])
	fmt.Println(e == api.ErrShort)
	rows, total := frame.Scan(s + s + "\x02a\x00\x00" + s)
	fmt.Println(rows, total, frame.Sizes(s+s))
	// Output:
	// [2 97 98 165] 0
	// ab 4 0
	// true
	// [ab ab] 8 [4 4]
}
