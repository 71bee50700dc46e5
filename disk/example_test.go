package disk_test

import (
	"fmt"

	"engross/disk"
)

// The example of README.md.
func Example() {
	d, e := disk.New(9)
	fmt.Println(e)
	e = d.Write("a", 0, "xyz")
	fmt.Println(e)
	e = d.Sync()
	fmt.Println(e)
	e = d.Write("a", 3, "pqr")
	fmt.Println(e, d.Read("a"), d.Kept()[0].Bytes, d.Pending(), d.Room())
	e = d.Crash(func(i int) int { return 1 })
	fmt.Println(e, d.Read("a"), d.Kept()[0].Bytes, d.Pending(), d.Room())
	e = d.Cut("a", 2)
	fmt.Println(e, d.Read("a"))
	// Output:
	// 0
	// 0
	// 0
	// 0 xyzpqr xyz 1 3
	// 0 xyzp xyzp 0 5
	// 0 xy
}
