package tree_test

import (
	"encoding/hex"
	"math"
	"slices"
	"strings"
	"testing"

	"engross/api"
	"engross/tree"
)

// lengths are the lengths that a hash may have at the edges, and some between; wrong are others.
var (
	lengths = []int{1, 2, 4, 16, 31, 32}
	wrong   = []int{0, -1, -32, 33, 34, 64, 1 << 32, 1<<32 + 1, math.MaxInt, math.MinInt, math.MinInt + 1}
)

// texts are of many kinds: none, one byte, those that the hashes begin with, more than a block, and bytes that are no letters.
func texts() []string {
	return []string{"", "\x00", "\x01", "a", "\x00a", "\x01a", "é", "\xff\xfe", "\xc3", strings.Repeat("x", 63), strings.Repeat("y", 64), strings.Repeat("z", api.MaxRow+1)}
}

// P3.1: a leaf's hash is the digest of the byte 0 and its bytes.
func TestLeafIsTheDigestBehindNought(t *testing.T) {
	for _, s := range texts() {
		for n := 1; n <= 32; n++ {
			if got, want := tree.Leaf(s, n), hashed("\x00"+s, n); got != want {
				t.Errorf("Leaf(%.9q, %d): %x, not %x", s, n, got, want)
			}
		}
	}
}

// P3.1: a node's hash is the digest of the byte 1 and both, of whatever lengths.
func TestNodeIsTheDigestBehindOne(t *testing.T) {
	for _, a := range texts() {
		for _, b := range texts() {
			for _, n := range lengths {
				if got, want := tree.Node(a, b, n), hashed("\x01"+a+b, n); got != want {
					t.Errorf("Node(%.9q, %.9q, %d): %x, not %x", a, b, n, got, want)
				}
			}
		}
	}
}

// P3.1: of another n they are empty.
func TestHashesOfOtherLengthsAreEmpty(t *testing.T) {
	for _, n := range wrong {
		for _, s := range []string{"", "abc"} {
			if got := tree.Leaf(s, n); got != "" {
				t.Errorf("Leaf(%q, %d): %q", s, n, got)
			}
			if got := tree.Node(s, s, n); got != "" {
				t.Errorf("Node(%q, %q, %d): %q", s, s, n, got)
			}
		}
	}
}

// P3.1: the split is the greatest power of 2 below, 0 of fewer than two.
func TestSplit(t *testing.T) {
	for count, want := range map[int]int{
		0: 0, 1: 0, -1: 0, -2: 0, -4096: 0, math.MinInt: 0, math.MinInt + 1: 0,
		2: 1, 3: 2, 4: 2, 5: 4, 1 << 32: 1 << 31, 1<<32 + 1: 1 << 32, 1 << 62: 1 << 61, 1<<62 + 1: 1 << 62, math.MaxInt: 1 << 62,
	} {
		if got := tree.Split(count); got != want {
			t.Errorf("Split(%d): %d, not %d", count, got, want)
		}
	}
	power := 1
	for count := 2; count < 10000; count++ {
		if 2*power < count {
			power *= 2
		}
		if got := tree.Split(count); got != power {
			t.Errorf("Split(%d): %d, not %d", count, got, power)
		}
	}
}

// P3.2: roots that are written down elsewhere, of trees as RFC 6962 shapes them.
func TestRootOfKnownLeaves(t *testing.T) {
	leaves := []string{"", "\x00", "\x10", " !", "01", "@ABC", "PQRSTUVW", "`abcdefghijklmno"}
	for count, want := range []string{
		"e3b0c44298fc1c149afbf4c8996fb92427ae41e4649b934ca495991b7852b855",
		"6e340b9cffb37a989ca544e6bb780a2c78901d3fb33738768511a30617afa01d",
		"fac54203e7cc696cf0dfcb42c92a1d9dbaf70ad9e621f4bd8d98662f00e3c125",
		"aeb6bcfe274b70a14fb067a5e5578264db0fa9b51af5e0ba159158f329e06e77",
		"d37ee418976dd95753c1c73862b9398fa2a2cf9b4ff0fdfe8b30cd95209614b7",
		"4e3bbb1f7b478dcfe71fb631631519a3bca12c9aefca1612bfce4c13a86264d4",
		"76e67dadbcdf1e10e1b74ddc608abd2f98dfb16fbce75277b5232a127f2087ef",
		"ddb89be403809e325750d3d263cd78929c2942b7942a34b77e122c9594a74c8c",
		"5dc9da79a70659a9ad559cb701ded9a2ab9d823aad2f4960cfe370eff4604328",
	} {
		got, e := tree.Root(leaves[:count], 32)
		if hex.EncodeToString([]byte(got)) != want || e != api.OK {
			t.Errorf("Root of %d leaves: %x %d, not %s", count, got, e, want)
		}
	}
}

// P3.2: the roots of as many leaves as there may be, with hashes of every length.
func TestRoot(t *testing.T) {
	for count := range 140 {
		for _, n := range lengths {
			leaves := leavesOf(count, n)
			if got, e := tree.Root(leaves, n); got != rootOf(leaves, n) || e != api.OK {
				t.Errorf("Root of %d leaves, %d: %x %d, not %x", count, n, got, e, rootOf(leaves, n))
			}
		}
	}
	for _, count := range []int{255, 256, 257, 1023, 2047, 2048, 2049, 4095, 4096} {
		leaves := leavesOf(count, 1)
		if got, e := tree.Root(leaves, 32); got != rootOf(leaves, 32) || e != api.OK {
			t.Errorf("Root of %d leaves: %x %d, not %x", count, got, e, rootOf(leaves, 32))
		}
	}
	for n := 1; n <= 32; n++ {
		if got, e := tree.Root(nil, n); got != hashed("", n) || e != api.OK {
			t.Errorf("Root of none, %d: %x %d", n, got, e)
		}
		if got, e := tree.Root([]string{}, n); got != hashed("", n) || e != api.OK {
			t.Errorf("Root of an empty list, %d: %x %d", n, got, e)
		}
		if got, e := tree.Root([]string{"a"}, n); got != tree.Leaf("a", n) || e != api.OK {
			t.Errorf("Root of one leaf, %d: %x %d", n, got, e)
		}
	}
}

// P3.2: what Root and Proof refuse, by the error that the chapter names first.
func TestRootAndProofRefuse(t *testing.T) {
	most, more := make([]string, api.MaxLeaves), make([]string, api.MaxLeaves+1)
	refused := func(leaves []string, k, n int, ofRoot, ofProof api.Errno) {
		t.Helper()
		root, e := tree.Root(leaves, n)
		if e != ofRoot || e != api.OK && root != "" {
			t.Errorf("Root of %d leaves, %d: %q %d, not %d", len(leaves), n, root, e, ofRoot)
		}
		if proof, e := tree.Proof(leaves, k, n); e != ofProof || e != api.OK && len(proof) > 0 {
			t.Errorf("Proof of %d of %d leaves, %d: %q %d, not %d", k, len(leaves), n, proof, e, ofProof)
		}
	}
	for _, n := range wrong {
		for _, leaves := range [][]string{nil, {}, {"a"}, {"a", "b", "c"}, most, more} {
			for _, k := range []int{0, -1, len(leaves), math.MaxInt} {
				refused(leaves, k, n, api.ErrArg, api.ErrArg)
			}
		}
	}
	for _, k := range []int{0, -1, len(more) - 1, len(more), math.MaxInt, math.MinInt} {
		refused(more, k, 32, api.ErrMany, api.ErrMany)
		refused(append(more, "a", "b"), k, 1, api.ErrMany, api.ErrMany)
	}
	for _, leaves := range [][]string{nil, {}, {"a"}, {"a", "b", "c"}, {"a", "b", "c", "d"}, most} {
		for _, k := range []int{-1, -2, math.MinInt, len(leaves), len(leaves) + 1, math.MaxInt} {
			refused(leaves, k, 32, api.OK, api.ErrRange)
		}
	}
	refused(most, 0, 1, api.OK, api.OK)
	refused(most, len(most)-1, 32, api.OK, api.OK)
}

// Rules 4 to 6: what is handed in stays as it was, its spare room too, and the same is answered again.
func TestArgumentsStay(t *testing.T) {
	for _, count := range []int{0, 1, 2, 3, 5, 8, 13, 64, 65} {
		all := leavesOf(count+20, 3)
		before := slices.Clone(all)
		leaves := all[:count]
		for k := range count {
			proof, _ := tree.Proof(leaves, k, 16)
			room := append(slices.Clone(proof), "room", "to", "spare")
			kept := slices.Clone(room)
			root, _ := tree.Root(leaves, 16)
			tree.Check(leaves[k], k, count, room[:len(proof)], root, 16)
			if !slices.Equal(room, kept) {
				t.Errorf("leaf %d of %d: the proof was changed", k, count)
			}
			clear(proof)
			if again, e := tree.Proof(leaves, k, 16); e != api.OK || !slices.Equal(again, proofOf(leaves, k, 16)) {
				t.Errorf("leaf %d of %d: another proof the second time", k, count)
			}
		}
		if !slices.Equal(all, before) {
			t.Errorf("%d leaves were changed", count)
		}
	}
}
