package tree_test

import (
	"fmt"

	"engross/api"
	"engross/tree"
)

// The example of README.md.
func Example() {
	leaves := []string{"a", "b", "c"}
	root, e := tree.Root(leaves, 32)
	if e != api.OK {
		fmt.Println(e)
	}
	proof, e := tree.Proof(leaves, 2, 32)
	if e != api.OK {
		fmt.Println(e)
	}
	fmt.Println(tree.Check("c", 2, 3, proof, root, 32), tree.Check("x", 2, 3, proof, root, 32))
	fmt.Println(len(proof), proof[0] == tree.Node(tree.Leaf("a", 32), tree.Leaf("b", 32), 32), tree.Split(3))
	// Output:
	// true false
	// 1 true 2
}
