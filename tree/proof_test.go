package tree_test

import (
	"math"
	"slices"
	"strings"
	"testing"
	"unsafe"

	"engross/api"
	"engross/tree"
)

// P3.2: the proofs of all leaves, with hashes of many lengths.
func TestProof(t *testing.T) {
	for count := 1; count < 70; count++ {
		for _, n := range lengths {
			leaves := leavesOf(count, n)
			for k := range count {
				if got, e := tree.Proof(leaves, k, n); !slices.Equal(got, proofOf(leaves, k, n)) || e != api.OK {
					t.Errorf("Proof of %d of %d leaves, %d: %x %d, not %x", k, count, n, got, e, proofOf(leaves, k, n))
				}
			}
		}
	}
	for _, count := range []int{2047, 2048, 2049, 4095, 4096} {
		leaves := leavesOf(count, 1)
		for _, k := range []int{0, 1, count / 2, count/2 + 1, 2047 % count, 2048 % count, count - 2, count - 1} {
			if got, e := tree.Proof(leaves, k, 32); !slices.Equal(got, proofOf(leaves, k, 32)) || e != api.OK {
				t.Errorf("Proof of %d of %d leaves: %x %d", k, count, got, e)
			}
		}
	}
}

// P3.2: the chapter's example, and the smallest trees.
func TestProofOfFewLeaves(t *testing.T) {
	leaves := []string{"a", "b", "c", "d", "e"}
	four, _ := tree.Root(leaves[:4], 32)
	if proof, e := tree.Proof(leaves, 4, 32); !slices.Equal(proof, []string{four}) || e != api.OK {
		t.Errorf("the leaf 4 of 5: %x %d", proof, e)
	}
	two, _ := tree.Root(leaves[2:4], 32)
	if proof, e := tree.Proof(leaves, 1, 32); !slices.Equal(proof, []string{tree.Leaf("a", 32), two, tree.Leaf("e", 32)}) || e != api.OK {
		t.Errorf("the leaf 1 of 5: %x %d", proof, e)
	}
	if proof, e := tree.Proof(leaves[:1], 0, 32); len(proof) > 0 || e != api.OK {
		t.Errorf("the leaf 0 of 1: %x %d", proof, e)
	}
	if proof, e := tree.Proof(leaves[:2], 0, 1); !slices.Equal(proof, []string{tree.Leaf("b", 1)}) || e != api.OK {
		t.Errorf("the leaf 0 of 2: %x %d", proof, e)
	}
}

// Rule 5: an answer's texts lie neither in an argument nor in one another, where leaves and hashes are alike too.
func TestProofIsNewMemory(t *testing.T) {
	leaves := slices.Repeat([]string{strings.Repeat("a", 40)}, 8)
	first, _ := tree.Proof(leaves, 0, 16)
	second, _ := tree.Proof(leaves, 1, 16)
	root, _ := tree.Root(leaves, 16)
	seen := map[*byte]bool{unsafe.StringData(leaves[0]): true}
	for _, s := range slices.Concat(first, second, []string{root, tree.Leaf(leaves[0], 16), tree.Node(first[0], first[0], 16)}) {
		at := unsafe.StringData(s)
		if seen[at] {
			t.Errorf("%x lies where another text does", s)
		}
		seen[at] = true
	}
}

// P3.3 and P3.4: each leaf's proof is checked, also of as many leaves as there may be.
func TestCheckOfEachProof(t *testing.T) {
	for count := 1; count < 70; count++ {
		for _, n := range lengths {
			leaves := leavesOf(count, n)
			root, _ := tree.Root(leaves, n)
			for k := range count {
				if proof, _ := tree.Proof(leaves, k, n); !tree.Check(leaves[k], k, count, proof, root, n) {
					t.Errorf("the proof of %d of %d leaves, %d, isn't checked", k, count, n)
				}
			}
		}
	}
	leaves := leavesOf(api.MaxLeaves, 1)
	all := rows(leaves, 32)
	root := all[len(all)-1][0]
	for k, leaf := range leaves {
		var proof []string
		for up, row := range all[:len(all)-1] {
			proof = append(proof, row[k>>up^1])
		}
		if !tree.Check(leaf, k, len(leaves), proof, root, 32) {
			t.Errorf("the proof of %d of %d leaves isn't checked", k, len(leaves))
		}
	}
}

// P3.3 and P3.4: with long hashes nothing but the leaf's own proof and the root is checked.
func TestCheckRefusesAllElse(t *testing.T) {
	const n = 32
	other := strings.Repeat("x", n)
	for count := 1; count < 24; count++ {
		leaves := leavesOf(count, 5)
		root, _ := tree.Root(leaves, n)
		for k, leaf := range leaves {
			proof, _ := tree.Proof(leaves, k, n)
			refused := func(what string, leaf string, k, count int, proof []string, root string) {
				t.Helper()
				if tree.Check(leaf, k, count, proof, root, n) {
					t.Errorf("leaf %d of %d: %s is checked", k, count, what)
				}
			}
			for _, s := range []string{"", other, root[:n-1], root + "x", turned(root, 0), turned(root, n-1), tree.Leaf("x", n)} {
				refused("another root", leaf, k, count, proof, s)
			}
			refused("another leaf", leaf+"x", k, count, proof, root)
			refused("the leaf's hash as a leaf", tree.Leaf(leaf, n), k, count, proof, root)
			refused("a longer proof", leaf, k, count, append(slices.Clone(proof), other), root)
			refused("a proof with an empty hash behind", leaf, k, count, append(slices.Clone(proof), ""), root)
			refused("the root as a further hash", leaf, k, count, append(slices.Clone(proof), root), root)
			for i := range proof {
				for _, s := range []string{"", other, proof[i][:n-1], proof[i] + "x", turned(proof[i], 0), turned(proof[i], n-1)} {
					with := slices.Clone(proof)
					with[i] = s
					refused("a proof with another hash", leaf, k, count, with, root)
				}
				refused("a proof without a hash", leaf, k, count, slices.Delete(slices.Clone(proof), i, i+1), root)
			}
			if len(proof) > 1 {
				down := slices.Clone(proof)
				slices.Reverse(down)
				refused("a proof from the root down", leaf, k, count, down, root)
			}
		}
	}
}

// P3.3: what no tree has, though the root comes out, or a count is far off.
func TestCheckRefusesWhatMayNotBe(t *testing.T) {
	leaves := []string{"a", "b", "c"}
	for _, n := range wrong {
		for _, hash := range []string{"", tree.Leaf("a", 32)} {
			if tree.Check("a", 0, 1, nil, hash, n) || tree.Check("a", 0, 2, []string{hash}, hash, n) {
				t.Errorf("hashes of %d bytes are checked", n)
			}
		}
	}
	root, _ := tree.Root(leaves, 32)
	for i, leaf := range leaves {
		proof, _ := tree.Proof(leaves, i, 32)
		for _, k := range []int{-1, -2, i - 3, i + 3, 3, 4, i + 1<<32, math.MaxInt, math.MinInt} {
			if tree.Check(leaf, k, 3, proof, root, 32) {
				t.Errorf("the leaf %d is checked as the leaf %d of 3", i, k)
			}
		}
	}
	proof, _ := tree.Proof(leaves, 1, 32)
	for _, count := range []int{0, -1, -3, 1, 2, 5, 4097, 3 + 1<<32, math.MaxInt, math.MinInt} {
		if tree.Check("b", 1, count, proof, root, 32) {
			t.Errorf("the leaf 1 of %d is checked", count)
		}
	}
	for _, count := range []int{0, -1, math.MinInt} {
		for _, k := range []int{0, -1, count - 1, count} {
			if tree.Check("a", k, count, nil, tree.Leaf("a", 32), 32) || tree.Check("", k, count, nil, hashed("", 32), 32) {
				t.Errorf("the leaf %d of %d is checked", k, count)
			}
		}
	}
}

// P3.3: a proof that would do, of more leaves than there may be.
func TestCheckRefusesMoreLeavesThanThereMayBe(t *testing.T) {
	for count, want := range map[int]bool{api.MaxLeaves: true, api.MaxLeaves + 1: false, api.MaxLeaves + 2: false, 2 * api.MaxLeaves: false} {
		leaves := leavesOf(count, 1)
		for _, k := range []int{0, 1, count - 2, count - 1} {
			proof, root := proofOf(leaves, k, 32), rootOf(leaves, 32)
			if got := tree.Check(leaves[k], k, count, proof, root, 32); got != want {
				t.Errorf("the leaf %d of %d: %v", k, count, got)
			}
		}
	}
}

// P3.3: hashes of no tree show just what comes out of them, and where the numbers ask for more hashes or fewer they show nothing.
func TestCheckAgainstAnotherWayUp(t *testing.T) {
	for count := -1; count < 70; count++ {
		for k := -1; k <= count+1; k++ {
			for size := range 10 {
				n := 1 + (31*size+k)&31
				var proof []string
				for i := range size {
					proof = append(proof, hashed(strings.Repeat("h", i+k+1), n))
				}
				root, want := goesUp("leaf", k, count, proof, n)
				if got := tree.Check("leaf", k, count, proof, root, n); got != want {
					t.Errorf("the leaf %d of %d, %d hashes: %v", k, count, size, got)
				}
				for i := range len(root) {
					if tree.Check("leaf", k, count, proof, turned(root, i), n) {
						t.Errorf("the leaf %d of %d, %d hashes: a root with a bit turned is checked", k, count, size)
					}
				}
			}
		}
	}
}

// P3.3: each hash of a proof has n bytes, though of others the root comes out too.
func TestCheckRefusesHashesOfOtherLengths(t *testing.T) {
	for _, n := range lengths {
		for count := 2; count < 12; count++ {
			for k := range count {
				proof := proofOf(leavesOf(count, n), k, n)
				for i := range proof {
					for _, s := range []string{"", proof[i][:n-1], proof[i] + "x", proof[i] + proof[i]} {
						with := slices.Clone(proof)
						with[i] = s
						root, whole := goesUp("leaf", k, count, with, n)
						if !whole || tree.Check("leaf", k, count, with, root, n) {
							t.Errorf("the leaf %d of %d, %d: the hash %d of %d bytes is checked, or nothing comes out", k, count, n, i, len(s))
						}
					}
				}
			}
		}
	}
}

// P3.3: a leaf's hash isn't a node's: what was hashed for a node isn't a leaf of a smaller tree.
func TestCheckKeepsLeavesAndNodesApart(t *testing.T) {
	a, b := tree.Leaf("a", 32), tree.Leaf("b", 32)
	root, _ := tree.Root([]string{"a", "b"}, 32)
	for _, leaf := range []string{a + b, "\x01" + a + b, "\x00" + a + b} {
		if tree.Check(leaf, 0, 1, nil, root, 32) {
			t.Errorf("%x is checked as the only leaf", leaf)
		}
	}
}
