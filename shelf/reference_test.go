package shelf_test

import (
	"fmt"
	"math"
	"math/big"
	"regexp"

	"engross/api"
)

// The chapter's words once more, over numbers of any size: a name is taken apart by its form, and its number held against 2^40 whole.

var (
	form     = regexp.MustCompile(`\A([sc])(0|[1-9][0-9]*)\z`)
	greatest = new(big.Int).Lsh(big.NewInt(1), 40)
)

type told struct {
	kind, n int
	ok      bool
}

func kindOf(s string) told {
	if s == "heads" {
		return told{3, 0, true}
	}
	part := form.FindStringSubmatch(s)
	if part == nil {
		return told{}
	}
	n, _ := new(big.Int).SetString(part[2], 10)
	if n.Cmp(greatest) > 0 {
		return told{}
	}
	return told{map[string]int{"s": 1, "c": 2}[part[1]], int(n.Int64()), true}
}

// nameOf gives the name of a segment, or of a snapshot.
func nameOf(begin string, n int) string {
	if n < 0 || big.NewInt(int64(n)).Cmp(greatest) > 0 {
		return ""
	}
	return fmt.Sprintf("%s%d", begin, n)
}

func sorted(files []api.File) map[int][]int {
	m := map[int][]int{}
	for kind := range 4 {
		for _, f := range files {
			if k := kindOf(f.Name); k.kind == kind {
				m[kind] = append(m[kind], k.n)
			}
		}
	}
	return m
}

// numbers are such as names have, at the edges too, and others.
func numbers() []int {
	l := []int{math.MinInt, math.MinInt + 1, math.MaxInt - 1, math.MaxInt, -1 << 40, 1<<40 + 10}
	for n := -1100; n < 11100; n++ {
		l = append(l, n)
	}
	for n := 100000; n < math.MaxInt/10; n *= 10 {
		l = append(l, n-1, n, n+1, -n, n/9, n/9*8)
	}
	for i := range 63 {
		l = append(l, 1<<i-1, 1<<i, 1<<i+1, -1<<i)
	}
	return l
}
