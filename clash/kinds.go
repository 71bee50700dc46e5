package clash

import (
	"engross/nums"
	"engross/tree"
)

// What is hashed for a leaf and for a node begins with these (layer 3).
const (
	leafMark = "\x00"
	nodeMark = "\x01"
)

// ofRows gives what tells of any row of leaves what is hashed for its root.
func ofRows(_ []string, n int) hashed {
	return func(leaves []string) string {
		switch len(leaves) {
		case 0:
			return ""
		case 1:
			return joined(leafMark, leaves[0])
		}
		parts := []string{nodeMark}
		for _, side := range sides(leaves) {
			root, _ := tree.Root(side, n)
			parts = append(parts, root)
		}
		return joined(parts...)
	}
}

// sides gives both sides of two leaves or more.
func sides(leaves []string) [][]string {
	at := tree.Split(len(leaves))
	return [][]string{leaves[:at], leaves[at:]}
}

// ofChain gives what tells of chain, and of any beginning of it, what is hashed last. The hashes of the beginnings are made once, ahead: made anew at each step down they would take time by the square.
func ofChain(chain []string, n int) hashed {
	hashes := []string{digest("", n)}
	link := func(k int) string { return joined(nums.Row(hashes[k]), nums.Row(chain[k])) }
	for k := range len(chain) - 1 {
		hashes = append(hashes, digest(link(k), n))
	}
	return func(texts []string) string {
		if len(texts) == 0 {
			return ""
		}
		return link(len(texts) - 1)
	}
}

// beginning gives the chain of all but the last text of one that has any, as all that it stands on.
func beginning(texts []string) [][]string { return [][]string{texts[:len(texts)-1]} }
