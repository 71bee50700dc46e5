package tree

import (
	"slices"

	"engross/api"
)

// Proof gives the proof of the leaf k.
func Proof(leaves []string, k, n int) ([]string, api.Errno) {
	if e := refusal(leaves, n); e != api.OK {
		return nil, e
	}
	if k < 0 || k >= len(leaves) {
		return nil, api.ErrRange
	}
	return proofOf(leaves, k, n), api.OK
}

// Check tells whether proof shows that the bytes leaf are the leaf k of count ones with that root.
func Check(leaf string, k, count int, proof []string, root string, n int) bool {
	if !mayHash(n) || count > api.MaxLeaves || k < 0 || k >= count {
		return false
	}
	turns := turnsTo(k, count)
	if len(proof) != len(turns) || slices.ContainsFunc(proof, func(hash string) bool { return len(hash) != n }) {
		return false
	}
	hash := Leaf(leaf, n)
	up := func(second bool, other string) {
		if second {
			hash = Node(other, hash, n)
		} else {
			hash = Node(hash, other, n)
		}
	}
	for i := range len(proof) {
		// The turns go down from the root, the proof comes up from the leaf.
		up(turns[len(turns)-1-i], proof[i])
	}
	return hash == root
}

// proofOf gives the proof of a leaf that is there.
func proofOf(leaves []string, k, n int) []string {
	if len(leaves) < 2 {
		return nil
	}
	first, second := sides(leaves)
	if k < len(first) {
		return append(proofOf(first, k, n), rootOf(second, n))
	}
	return append(proofOf(second, k-len(first), n), rootOf(first, n))
}

// turnsTo tells of each split on the way down to the leaf k of count ones whether the leaf is on its second side.
func turnsTo(k, count int) []bool {
	var turns []bool
	for count > 1 {
		at := Split(count)
		second := k >= at
		if second {
			k, count = k-at, count-at
		} else {
			count = at
		}
		turns = append(turns, second)
	}
	return turns
}
