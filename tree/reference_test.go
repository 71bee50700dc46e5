package tree_test

import (
	"crypto/sha256"
	"strings"
)

// What the package is held against: the library's digests, and trees that are built row by row and climbed by the bits of a leaf's number, not parted by a split.

// hashed gives the first n bytes of the digest of s.
func hashed(s string, n int) string {
	d := sha256.Sum256([]byte(s))
	return string(d[:n])
}

// rows gives all rows of a tree, from the leaves' hashes up to the root: each two neighbours make a hash of the next row, and one without a neighbour goes up as it is.
func rows(leaves []string, n int) [][]string {
	row := make([]string, len(leaves))
	for i, leaf := range leaves {
		row[i] = hashed("\x00"+leaf, n)
	}
	all := [][]string{row}
	for len(row) > 1 {
		var next []string
		for i := 0; i+1 < len(row); i += 2 {
			next = append(next, hashed("\x01"+row[i]+row[i+1], n))
		}
		if len(row)%2 == 1 {
			next = append(next, row[len(row)-1])
		}
		row = next
		all = append(all, row)
	}
	return all
}

// rootOf gives the root.
func rootOf(leaves []string, n int) string {
	if len(leaves) == 0 {
		return hashed("", n)
	}
	all := rows(leaves, n)
	return all[len(all)-1][0]
}

// proofOf gives the proof of the leaf k: its neighbour, where it has one, of each row.
func proofOf(leaves []string, k, n int) []string {
	var proof []string
	for _, row := range rows(leaves, n) {
		if beside := k ^ 1; beside < len(row) {
			proof = append(proof, row[beside])
		}
		k /= 2
	}
	return proof
}

// goesUp gives the root that comes out of a leaf and its proof, as RFC 9162, 2.1.3.2, goes up: by the bits of the leaf's number and of the last one's; false, where they don't lead to a root.
func goesUp(leaf string, k, count int, proof []string, n int) (string, bool) {
	if k < 0 || k >= count {
		return "", false
	}
	hash, last := hashed("\x00"+leaf, n), count-1
	for _, other := range proof {
		if last == 0 {
			return "", false
		}
		if k%2 == 1 || k == last {
			hash = hashed("\x01"+other+hash, n)
			for k%2 == 0 && k != 0 {
				k, last = k/2, last/2
			}
		} else {
			hash = hashed("\x01"+hash+other, n)
		}
		k, last = k/2, last/2
	}
	return hash, last == 0
}

// turned gives s with a bit of its byte i turned.
func turned(s string, i int) string {
	return s[:i] + string([]byte{s[i] ^ 1<<(i%8)}) + s[i+1:]
}

// leavesOf gives count leaves of many lengths, none of them too, which hang on count and on seed alone.
func leavesOf(count, seed int) []string {
	leaves := make([]string, count)
	x := uint32(seed)*2654435761 + uint32(count) + 1
	for i := range leaves {
		x = x*1664525 + 1013904223
		leaves[i] = strings.Repeat(string([]byte{byte(x >> 24)}), int(x>>16)%5) + string([]byte{byte(i), byte(i >> 8)})[:min(i, 2)]
	}
	return leaves
}
