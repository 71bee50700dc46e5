package shelf_test

import (
	"fmt"

	"engross/api"
	"engross/shelf"
)

// The example of README.md.
func Example() {
	fmt.Println(shelf.Segment(12), shelf.Column(30), shelf.Heads(), shelf.Segment(-1) == "")
	fmt.Println(shelf.Kind("s12"))
	fmt.Println(shelf.Kind("s01"))
	fmt.Println(shelf.Sorted([]api.File{{Name: "c30"}, {Name: "heads"}, {Name: "s1"}, {Name: "s0"}}))
	// Output:
	// s12 c30 heads true
	// 1 12 true
	// 0 0 false
	// map[1:[1 0] 2:[30] 3:[0]]
}
