package money_test

import (
	"math/big"
	"testing"

	"engross/money"
)

// told fails where a call of that name and those arguments answers something else.
func told(t *testing.T, got int64, ok bool, want int64, fits bool, name string, args ...any) {
	t.Helper()
	if got != want || ok != fits {
		t.Errorf("%s of %v: %d %v, not %d %v", name, args, got, ok, want, fits)
	}
}

// allTwo holds Add, Sub and Mul of a and b against numbers without bounds.
func allTwo(t *testing.T, a, b int64) {
	t.Helper()
	for _, x := range []struct {
		name  string
		call  func(a, b int64) (int64, bool)
		exact func(z, a, b *big.Int) *big.Int
	}{
		{"Add", money.Add, (*big.Int).Add},
		{"Sub", money.Sub, (*big.Int).Sub},
		{"Mul", money.Mul, (*big.Int).Mul},
	} {
		got, ok := x.call(a, b)
		want, fits := fitting(x.exact(new(big.Int), big64(a), big64(b)))
		told(t, got, ok, want, fits, x.name, a, b)
	}
}

// P5.1: two numbers added: written out, where that just fits and where it just doesn't.
func TestAddAtTheEnds(t *testing.T) {
	for _, x := range []struct {
		a, b, sum int64
		fits      bool
	}{
		{0, 0, 0, true}, {2, 3, 5, true}, {-2, 3, 1, true}, {2, -3, -1, true}, {-2, -3, -5, true},
		{most, 0, most, true}, {most, 1, 0, false}, {1, most, 0, false}, {most, most, 0, false}, {most - 1, 1, most, true},
		{least, 0, least, true}, {least, -1, 0, false}, {-1, least, 0, false}, {least, least, 0, false}, {least + 1, -1, least, true},
		{most, least, -1, true}, {least, most, -1, true}, {1 << 62, 1 << 62, 0, false}, {-1 << 62, -1 << 62, least, true}, {1 << 62, 1<<62 - 1, most, true},
	} {
		got, ok := money.Add(x.a, x.b)
		told(t, got, ok, x.sum, x.fits, "Add", x.a, x.b)
	}
}

// P5.1: one number less another; the least one can't be taken by adding what it is without its sign.
func TestSubAtTheEnds(t *testing.T) {
	for _, x := range []struct {
		a, b, diff int64
		fits       bool
	}{
		{0, 0, 0, true}, {2, 3, -1, true}, {3, 2, 1, true}, {-2, 3, -5, true}, {2, -3, 5, true},
		{0, least, 0, false}, {-1, least, most, true}, {least, least, 0, true}, {most, least, 0, false}, {1, least, 0, false}, {-2, least, most - 1, true},
		{least, 1, 0, false}, {least, 0, least, true}, {least, -1, least + 1, true}, {most, -1, 0, false}, {most, 1, most - 1, true},
		{0, most, -most, true}, {-1, most, least, true}, {-2, most, 0, false}, {most, most, 0, true}, {least, most, 0, false},
	} {
		got, ok := money.Sub(x.a, x.b)
		told(t, got, ok, x.diff, x.fits, "Sub", x.a, x.b)
	}
}

// P5.1: one number times another, the chapter's example ahead of all.
func TestMulAtTheEnds(t *testing.T) {
	for _, x := range []struct {
		a, b, product int64
		fits          bool
	}{
		{1 << 62, 2, 0, false}, {2, 1 << 62, 0, false}, {-1 << 62, 2, least, true}, {1 << 62, -2, least, true}, {-1 << 62, -2, 0, false},
		{0, 0, 0, true}, {0, most, 0, true}, {least, 0, 0, true}, {0, -5, 0, true}, {2, 3, 6, true}, {-2, 3, -6, true}, {2, -3, -6, true}, {-2, -3, 6, true},
		{most, 1, most, true}, {most, -1, -most, true}, {least, 1, least, true}, {1, least, least, true}, {least, -1, 0, false}, {-1, least, 0, false},
		{most, most, 0, false}, {least, least, 0, false}, {most, least, 0, false}, {least, most, 0, false}, {least, 2, 0, false},
		{1 << 32, 1 << 31, 0, false}, {-1 << 32, 1 << 31, least, true}, {1 << 32, 1 << 32, 0, false}, {-1 << 32, 1 << 32, 0, false}, {1 << 33, 1 << 33, 0, false},
		{3037000499, 3037000499, 9223372030926249001, true}, {3037000500, 3037000500, 0, false}, {-3037000499, 3037000499, -9223372030926249001, true},
		{7, most / 7, most, true}, {7, most/7 + 1, 0, false}, {-7, most / 7, -most, true},
	} {
		got, ok := money.Mul(x.a, x.b)
		told(t, got, ok, x.product, x.fits, "Mul", x.a, x.b)
	}
}

// P5.1: a number without its sign; of the least one that doesn't fit.
func TestAbs(t *testing.T) {
	for _, a := range append(edges(), numbers(1000, 1)...) {
		got, ok := money.Abs(a)
		want, fits := fitting(new(big.Int).Abs(big64(a)))
		told(t, got, ok, want, fits, "Abs", a)
	}
	got, ok := money.Abs(least)
	told(t, got, ok, 0, false, "Abs", least)
	got, ok = money.Abs(least + 1)
	told(t, got, ok, most, true, "Abs", least+1)
}

// P5.1: all edges with all edges, and numbers of all sizes.
func TestTwoNumbersExactly(t *testing.T) {
	all := edges()
	for _, a := range all {
		for _, b := range all {
			allTwo(t, a, b)
		}
	}
	list := numbers(40000, 2)
	for i, a := range list[1:] {
		allTwo(t, a, list[i])
	}
}

// P5.1: a sum, a difference or a product that lies about an end of what fits.
func TestTwoNumbersAboutTheEnds(t *testing.T) {
	for _, a := range append(edges(), numbers(1000, 3)...) {
		for near := int64(-2); near <= 2; near++ {
			for _, end := range []int64{least, least + 1, 0, most - 1, most} {
				// The wrapped numbers are those beside which a's result is at the end, where there are such.
				allTwo(t, a, end-a+near)
				allTwo(t, a, a-end+near)
				if a != 0 {
					allTwo(t, a, end/a+near)
				}
			}
		}
	}
}
