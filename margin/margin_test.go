package margin_test

import (
	"testing"

	"engross/api"
	"engross/book"
	"engross/margin"
)

// enough fails where too few of the answers fit, or too few don't.
func enough(t *testing.T, fit, of int) {
	t.Helper()
	if fit < of/20 || of-fit < of/20 {
		t.Errorf("only %d of %d fit", fit, of)
	}
}

// told fails where a call of that name answers something else.
func told(t *testing.T, name string, n int64, ok bool, want int64, fits bool) {
	t.Helper()
	if n != want || ok != fits {
		t.Errorf("%s: %d %v, not %d %v", name, n, ok, want, fits)
	}
}

// one gives a book with one account 1 of that cash, one symbol 2 of that price, and that stake of it, if it isn't 0.
func one(cash, price, qty int64) api.Book {
	b := book.SetRate(book.SetHolder(api.Book{}, api.Holder{Id: 1, Cash: cash}), api.Rate{Sym: 2, Price: price})
	return book.SetStake(b, api.Stake{Acc: 1, Sym: 2, Qty: qty})
}

// P15.1: the equity of each account of books of all kinds, and of others.
func TestEquity(t *testing.T) {
	fit, of := 0, 0
	for _, b := range books() {
		for _, acc := range accounts(b) {
			of++
			if equal(t, b, acc) {
				fit++
			}
		}
	}
	enough(t, fit, of)
}

// P15.1: open orders, other accounts, and limits have no part in the equity.
func TestEquityOfTheSample(t *testing.T) {
	for _, x := range []struct{ acc, worth int64 }{{-4, 1000 + 21*42 - 22*43}, {2, -300 + 23*42}, {70, -24 * 41}, {5, 0}} {
		n, ok := margin.Equity(sample(), x.acc)
		told(t, "Equity", n, ok, x.worth, true)
	}
}

// P15.1: an equity that just fits, and one that just doesn't; what leaves 64 bits on the way may come back.
func TestEquityAtTheEnds(t *testing.T) {
	for _, x := range []struct {
		cash, price, qty, worth int64
		fits                    bool
	}{
		{most - 6, 3, 2, most, true}, {most - 5, 3, 2, 0, false}, {least + 6, 3, -2, least, true}, {least + 5, 3, -2, 0, false},
		{-1, 1 << 62, 2, most, true}, {0, 1 << 62, 2, 0, false}, {0, 1 << 62, -2, least, true}, {-1, 1 << 62, -2, 0, false},
		{0, 1, least, least, true}, {0, 2, least, 0, false}, {0, most, most, 0, false}, {0, most, least, 0, false}, {least, 5, 0, least, true}, {most, 5, 0, most, true},
	} {
		n, ok := margin.Equity(one(x.cash, x.price, x.qty), 1)
		told(t, "Equity "+brief(x), n, ok, x.worth, x.fits)
	}
	b := book.SetRate(one(7, most, most), api.Rate{Sym: 3, Price: most})
	b = book.SetStake(b, api.Stake{Acc: 1, Sym: 3, Qty: -most})
	n, ok := margin.Equity(b, 1)
	told(t, "Equity", n, ok, 7, true)
}

// P15.1: the need of each account of books of all kinds, and of others, with orders of all kinds.
func TestNeed(t *testing.T) {
	below := chance(7)
	rates := []int{0, 1, 10, 33, 50, 99, 100, 101, 999, 1000, -1, 1001}
	fit, of := 0, 0
	for _, b := range books() {
		for _, acc := range accounts(b) {
			for i := range 8 {
				list := [][]int64{edges(), small()}[i%2]
				of++
				if needed(t, b, acc, list[below(len(list))], list[below(len(list))], rates[below(len(rates))]) {
					fit++
				}
			}
			needed(t, b, acc, 0, 0, 100)
		}
	}
	enough(t, fit, of)
}

// P15.1: orders count on both sides, stakes without their sign; cash has no part.
func TestNeedOfTheSample(t *testing.T) {
	for _, x := range []struct {
		acc, qty, price int64
		rate            int
		need            int64
	}{
		{-4, 0, 0, 100, 21*42 + 22*43 + 33*34 + 35*36 + 37*38 + 39*40}, {-4, 3, 5, 1000, 10 * (21*42 + 22*43 + 33*34 + 35*36 + 37*38 + 39*40 + 15)},
		{2, 0, 9, 100, 23*42 + 31*32}, {70, 2, 8, 100, 24*41 + 16}, {70, -2, 8, 100, 24*41 - 16}, {70, -2, -8, 100, 24*41 + 16}, {70, 2, 8, 0, 0}, {5, 0, 0, 1000, 0},
	} {
		n, ok := margin.Need(sample(), x.acc, x.qty, x.price, x.rate)
		told(t, "Need "+brief(x), n, ok, x.need, true)
	}
}

// P15.1: hundredths are rounded up, of the whole exposure and not of its parts.
func TestNeedIsRoundedUp(t *testing.T) {
	b := book.SetOpen(one(0, 101, 1), api.Open{Id: 1, Acc: 1, Sym: 2, Left: 101, Price: 1})
	for _, x := range []struct {
		rate int
		need int64
	}{{0, 0}, {1, 4}, {10, 31}, {25, 76}, {33, 100}, {34, 104}, {50, 152}, {66, 200}, {67, 204}, {99, 300}, {100, 303}, {101, 307}, {1000, 3030}} {
		n, ok := margin.Need(b, 1, 101, 1, x.rate)
		told(t, "Need "+brief(x), n, ok, x.need, true)
	}
	for rate := range api.MaxRate + 1 {
		needed(t, b, 1, 100, 1, rate)
	}
}

// P15.1: no other rate than from 0 to MaxRate, and no exposure below 0.
func TestNeedIsRefused(t *testing.T) {
	b := one(0, 5, 3)
	for _, rate := range []int{-1, 1001, least, most, -100, 1 << 32, 1<<32 + 50} {
		n, ok := margin.Need(b, 1, 1, 1, rate)
		told(t, "Need", n, ok, 0, false)
	}
	for _, x := range []struct {
		qty, price int64
		fits       bool
	}{{-15, 1, true}, {3, -5, true}, {-16, 1, false}, {2, -8, false}, {-1, most, false}, {least, most, false}, {most, least, false}} {
		for _, rate := range []int{0, 100} {
			n, ok := margin.Need(b, 1, x.qty, x.price, rate)
			told(t, "Need "+brief(x), n, ok, 0, x.fits)
		}
	}
}

// P15.1: a need that just fits, and one that just doesn't; the exposure itself may leave 64 bits.
func TestNeedAtTheEnds(t *testing.T) {
	for _, x := range []struct {
		price, stake, qty, at int64
		rate                  int
		need                  int64
		fits                  bool
	}{
		{1, least, 0, 0, 100, 0, false}, {1, least, -1, 1, 100, most, true}, {1, least, 0, 0, 50, 1 << 62, true}, {1, least, -1, 1, 50, 1 << 62, true},
		{1, most, 0, 0, 100, most, true}, {1, most, 1, 1, 100, 0, false}, {1, most, 0, 0, 101, 0, false}, {1, -most, 0, 0, 100, most, true},
		{10, 1 << 62, 0, 0, 10, 1 << 62, true}, {1 << 62, least, most, most, 0, 0, true}, {most, least, most, most, 1000, 0, false},
		{most, 100, 0, 0, 1, most, true}, {most, -100, 1, 1, 1, 0, false}, {most, -100, -1, 1, 1, most, true}, {most, 100, -99, 1, 1, most, true}, {most, 100, -100, 1, 1, most - 1, true},
		{3, 1, least, most, 100, 0, false}, {3, 1, least, least, 100, 0, false}, {most, least, most, most, 0, 0, true}, {most, -most, most, -most, 100, 0, true}, {most, -most, least, most, 100, 0, false},
	} {
		n, ok := margin.Need(one(-9, x.price, x.stake), 1, x.qty, x.at, x.rate)
		told(t, "Need "+brief(x), n, ok, x.need, x.fits)
	}
}

// P15.2: the reach of each account in each symbol of books of all kinds, and of others.
func TestReach(t *testing.T) {
	below := chance(9)
	fit, of := 0, 0
	for _, b := range books() {
		for _, acc := range accounts(b) {
			for _, sym := range symbols(b) {
				for i, side := range []int{0, 1, below(5) - 2} {
					list := [][]int64{edges(), small()}[(i+below(2))%2]
					of++
					if reached(t, b, acc, sym, side, list[below(len(list))]) {
						fit++
					}
				}
			}
		}
	}
	enough(t, fit, of)
}

// P15.2: only open orders of that account, that symbol and that side have a part.
func TestReachOfTheSample(t *testing.T) {
	for _, x := range []struct {
		acc, sym int64
		side     int
		qty, far int64
	}{
		{-4, 3, 0, 5, 21 + 35 + 39 + 5}, {-4, 3, 1, 5, -21 + 37 + 5}, {-4, 9, 0, 5, -22 + 5}, {-4, 9, 1, 5, 22 + 5}, {-4, -8, 0, 0, 33}, {-4, -8, 1, 0, 0},
		{2, 9, 1, -1, 30}, {2, 9, 0, -1, -1}, {2, 3, 1, -1, -24}, {70, -8, 0, 24, 0}, {70, 3, 1, 8, 8}, {5, 3, 0, 8, 8}, {5, 3, 1, -8, -8}, {-4, 4, 1, 6, 6},
	} {
		n, ok := margin.Reach(sample(), x.acc, x.sym, x.side, x.qty)
		told(t, "Reach "+brief(x), n, ok, x.far, true)
	}
}

// P15.2: a reach that just fits, and one that just doesn't; no side but 0 and 1.
func TestReachAtTheEnds(t *testing.T) {
	for _, x := range []struct {
		stake int64
		side  int
		qty   int64
		far   int64
		fits  bool
	}{
		{least, 1, 0, 0, false}, {least, 1, -1, most, true}, {least, 1, least, 0, true}, {least, 0, 0, least, true}, {least, 0, -1, 0, false}, {least, 0, most, -1, true},
		{most, 0, 0, most, true}, {most, 0, 1, 0, false}, {most, 1, -1, least, true}, {most, 1, -2, 0, false}, {most, 0, least, -1, true}, {most, 1, most, 0, true},
		{5, 2, 1, 0, false}, {5, -1, 1, 0, false}, {5, most, 1, 0, false}, {5, least, 1, 0, false}, {5, 1 << 32, 1, 0, false}, {5, 1<<32 + 1, 1, 0, false}, {0, 0, least, least, true}, {0, 1, least, least, true},
	} {
		n, ok := margin.Reach(one(3, 4, x.stake), 1, 2, x.side, x.qty)
		told(t, "Reach "+brief(x), n, ok, x.far, x.fits)
	}
	b := one(3, 4, -most)
	for id := range int64(3) {
		b = book.SetOpen(b, api.Open{Id: id, Acc: 1, Sym: 2, Left: most, Price: most})
	}
	n, ok := margin.Reach(b, 1, 2, 0, -most)
	told(t, "Reach", n, ok, most, true)
	n, ok = margin.Reach(b, 1, 2, 0, -most+1)
	told(t, "Reach", n, ok, 0, false)
}
