package money_test

import (
	"math"
	"math/big"
	"slices"

	"engross/money"
)

// What the package is held against: the library's numbers without bounds.

const (
	most  = math.MaxInt64
	least = math.MinInt64
)

// big64 gives n without bounds.
func big64(n int64) *big.Int { return big.NewInt(n) }

// fitting gives n, and true, if it fits; 0 and false.
func fitting(n *big.Int) (int64, bool) {
	if n.IsInt64() {
		return n.Int64(), true
	}
	return 0, false
}

// edges are numbers at the ends of what fits, about each power of two, and about those whose products hardly fit, with both signs.
func edges() []int64 {
	list := []int64{0, 3, 7, 10, 99, 100, 101, 1000, 3037000499, 3037000500, 1 << 62 / 3, most / 3, most/2 + 1, most - 99, most - 1, most, least, least + 1}
	for shift := range 63 {
		power := int64(1) << shift
		list = append(list, power-1, power, power+1, power/3*2)
	}
	for _, n := range slices.Clone(list) {
		list = append(list, -n)
	}
	slices.Sort(list)
	return slices.Compact(list)
}

// few are the most unlike of the edges.
func few() []int64 {
	return []int64{least, least + 1, least / 2, -1 << 32, -101, -1, 0, 1, 2, 99, 1<<32 - 1, 1 << 62, most - 1, most}
}

// numbers gives count numbers of all sizes, which hang on count and on seed alone.
func numbers(count int, seed uint64) []int64 {
	out := make([]int64, count)
	x := seed*0x9e3779b97f4a7c15 + uint64(count) + 1
	for i := range out {
		x = x*6364136223846793005 + 1442695040888963407
		out[i] = int64(x) >> (x >> 33 % 64)
	}
	return out
}

// thing is what is added to a sum: a, or, if it is a product, a times b.
type thing struct {
	product bool
	a, b    int64
}

// worth gives what the thing is, without bounds.
func (x thing) worth() *big.Int {
	if x.product {
		return new(big.Int).Mul(big64(x.a), big64(x.b))
	}
	return big64(x.a)
}

// addTo adds the thing.
func (x thing) addTo(s *money.Sum) {
	if x.product {
		s.AddMul(x.a, x.b)
	} else {
		s.Add(x.a)
	}
}

// sumOf gives a sum of the things, and what it should be.
func sumOf(things []thing) (*money.Sum, *big.Int) {
	s, want := &money.Sum{}, new(big.Int)
	for _, x := range things {
		x.addTo(s)
		want.Add(want, x.worth())
	}
	return s, want
}

// built gives a sum that is n, of products by powers of two: a part that doesn't fit is added as often as it takes.
func built(n *big.Int) *money.Sum {
	var s money.Sum
	parts, rest := new(big.Int).QuoRem(n, new(big.Int).Lsh(big64(1), 124), new(big.Int))
	for range new(big.Int).Abs(parts).Int64() {
		s.AddMul(int64(parts.Sign())<<62, 1<<62)
	}
	parts.QuoRem(rest, big64(1<<62), rest)
	s.AddMul(parts.Int64(), 1<<62)
	s.Add(rest.Int64())
	return &s
}

// addends gives things of both kinds for any three numbers.
func addends(a, b, c int64) []thing {
	return []thing{{a: a}, {product: true, a: b, b: c}, {product: true, a: a, b: b}, {a: c}}
}

// shareOf gives rate hundredths of n, rounded up, and whether they fit and may be asked for.
func shareOf(n *big.Int, rate int) (int64, bool) {
	if n.Sign() < 0 || rate < 0 || rate > 1000 {
		return 0, false
	}
	share, rest := new(big.Int).QuoRem(new(big.Int).Mul(n, big64(int64(rate))), big64(100), new(big.Int))
	if rest.Sign() > 0 {
		share.Add(share, big64(1))
	}
	return fitting(share)
}
