package sha_test

import (
	"fmt"

	"engross/api"
	"engross/sha"
)

// The example of README.md.
func Example() {
	h := sha.New()
	h.Write("a")
	h.Write("bc")
	fmt.Println(sha.Hex(h.Sum()), h.Len(), h.Sum() == sha.Sum("abc"))
	if cut, e := sha.Cut("abc", 2); e == api.OK {
		fmt.Println(sha.Hex(cut))
	}
	// Output:
	// ba7816bf8f01cfea414140de5dae2223b00361a396177a9cb410ff61f20015ad 3 true
	// ba78
}
