package margin_test

import (
	"fmt"
	"math"
	"math/big"
	"slices"
	"testing"

	"engross/api"
	"engross/book"
	"engross/margin"
)

// What the package is held against: the chapter's words, over the library's numbers without bounds. Whether a book may be is layer 12's word.

const (
	least = math.MinInt64
	most  = math.MaxInt64
)

// big64 gives n without bounds.
func big64(n int64) *big.Int { return big.NewInt(n) }

// times gives a times b, without bounds.
func times(a, b *big.Int) *big.Int { return new(big.Int).Mul(a, b) }

// plus gives all numbers together, without bounds.
func plus(numbers ...*big.Int) *big.Int {
	sum := new(big.Int)
	for _, n := range numbers {
		sum.Add(sum, n)
	}
	return sum
}

// fitting gives n, and true, if it fits; 0 and false.
func fitting(n *big.Int) (int64, bool) {
	if n.IsInt64() {
		return n.Int64(), true
	}
	return 0, false
}

// cashOf gives an account's cash.
func cashOf(b api.Book, acc int64) *big.Int {
	for _, h := range b.Holders {
		if h.Id == acc {
			return big64(h.Cash)
		}
	}
	return big64(0)
}

// priceOf gives a symbol's price.
func priceOf(b api.Book, sym int64) *big.Int {
	for _, r := range b.Rates {
		if r.Sym == sym {
			return big64(r.Price)
		}
	}
	return big64(0)
}

// stakeOf gives an account's stake in a symbol.
func stakeOf(b api.Book, acc, sym int64) *big.Int {
	for _, s := range b.Stakes {
		if s.Acc == acc && s.Sym == sym {
			return big64(s.Qty)
		}
	}
	return big64(0)
}

// wantedEquity gives what Equity tells.
func wantedEquity(b api.Book, acc int64) (int64, bool) {
	if !book.May(b) {
		return 0, false
	}
	worth := cashOf(b, acc)
	for _, s := range b.Stakes {
		if s.Acc == acc {
			worth = plus(worth, times(big64(s.Qty), priceOf(b, s.Sym)))
		}
	}
	return fitting(worth)
}

// exposureOf gives an account's exposure with one more order.
func exposureOf(b api.Book, acc, qty, price int64) *big.Int {
	exposure := times(big64(qty), big64(price))
	for _, s := range b.Stakes {
		if s.Acc == acc {
			exposure = plus(exposure, times(new(big.Int).Abs(big64(s.Qty)), priceOf(b, s.Sym)))
		}
	}
	for _, o := range b.Opens {
		if o.Acc == acc {
			exposure = plus(exposure, times(big64(o.Left), big64(o.Price)))
		}
	}
	return exposure
}

// wantedNeed gives what Need tells.
func wantedNeed(b api.Book, acc, qty, price int64, rate int) (int64, bool) {
	if !book.May(b) || rate < 0 || rate > 1000 {
		return 0, false
	}
	exposure := exposureOf(b, acc, qty, price)
	if exposure.Sign() < 0 {
		return 0, false
	}
	share, rest := new(big.Int).QuoRem(times(exposure, big64(int64(rate))), big64(100), new(big.Int))
	if rest.Sign() > 0 {
		share = plus(share, big64(1))
	}
	return fitting(share)
}

// wantedReach gives what Reach tells.
func wantedReach(b api.Book, acc, sym int64, side int, qty int64) (int64, bool) {
	if !book.May(b) || side < 0 || side > 1 {
		return 0, false
	}
	far := stakeOf(b, acc, sym)
	if side == 1 {
		far.Neg(far)
	}
	for _, o := range b.Opens {
		if o.Acc == acc && o.Sym == sym && o.Side == side {
			far = plus(far, big64(o.Left))
		}
	}
	return fitting(plus(far, big64(qty)))
}

// wantedAfter gives what After tells.
func wantedAfter(b api.Book, o api.Open, qty, price int64) (int64, int64, bool, bool) {
	if !book.May(b) || o.Side < 0 || o.Side > 1 {
		return 0, 0, false, false
	}
	worth, much := times(big64(qty), big64(price)), big64(qty)
	if o.Side == 0 {
		worth.Neg(worth)
	} else {
		much.Neg(much)
	}
	cash, cashFits := fitting(plus(cashOf(b, o.Acc), worth))
	stake, stakeFits := fitting(plus(stakeOf(b, o.Acc, o.Sym), much))
	return cash, stake, cashFits, stakeFits
}

// brief tells of a thing in few words.
func brief(thing any) string {
	s := fmt.Sprintf("%v", thing)
	return s[:min(len(s), 300)]
}

// equal fails where the equity isn't what the chapter's words tell; it tells whether it fits.
func equal(t *testing.T, b api.Book, acc int64) bool {
	t.Helper()
	want, fits := wantedEquity(b, acc)
	if n, ok := margin.Equity(b, acc); n != want || ok != fits {
		t.Errorf("Equity of %d in %s: %d %v, not %d %v", acc, brief(b), n, ok, want, fits)
	}
	return fits
}

// needed fails where the need isn't what the chapter's words tell; it tells whether it fits.
func needed(t *testing.T, b api.Book, acc, qty, price int64, rate int) bool {
	t.Helper()
	want, fits := wantedNeed(b, acc, qty, price, rate)
	if n, ok := margin.Need(b, acc, qty, price, rate); n != want || ok != fits {
		t.Errorf("Need of %d, %d at %d, rate %d, in %s: %d %v, not %d %v", acc, qty, price, rate, brief(b), n, ok, want, fits)
	}
	return fits
}

// reached fails where the reach isn't what the chapter's words tell; it tells whether it fits.
func reached(t *testing.T, b api.Book, acc, sym int64, side int, qty int64) bool {
	t.Helper()
	want, fits := wantedReach(b, acc, sym, side, qty)
	if n, ok := margin.Reach(b, acc, sym, side, qty); n != want || ok != fits {
		t.Errorf("Reach of %d in %d, side %d, qty %d, in %s: %d %v, not %d %v", acc, sym, side, qty, brief(b), n, ok, want, fits)
	}
	return fits
}

// filled fails where what is behind a fill isn't what the chapter's words tell; it tells how many of both fit.
func filled(t *testing.T, b api.Book, o api.Open, qty, price int64) int {
	t.Helper()
	cash, stake, cashFits, stakeFits := wantedAfter(b, o, qty, price)
	if c, s, p, q := margin.After(b, o, qty, price); c != cash || s != stake || p != cashFits || q != stakeFits {
		t.Errorf("After %v, %d at %d, in %s: %d %d %v %v, not %d %d %v %v", o, qty, price, brief(b), c, s, p, q, cash, stake, cashFits, stakeFits)
	}
	fit := 0
	for _, fits := range []bool{cashFits, stakeFits} {
		if fits {
			fit++
		}
	}
	return fit
}

// chance gives numbers below what it is asked for, others of each seed.
func chance(seed uint64) func(n int) int {
	return func(n int) int {
		seed = seed*6364136223846793005 + 1442695040888963407
		return int(seed >> 33 % uint64(n))
	}
}

// edges are numbers at the ends of what fits, and some between, with both signs, rising.
func edges() []int64 {
	return []int64{least, least + 1, -1 << 62, -1<<32 - 1, -1 << 32, -1 << 31, -65, -64, -2, -1, 0, 1, 2, 3, 63, 64, 1<<31 - 1, 1 << 31, 1 << 32, 1<<32 + 1, 1 << 62, most - 1, most}
}

// small are numbers whose products stay far from the ends.
func small() []int64 { return []int64{-300, -7, -2, -1, 0, 1, 2, 3, 99, 100, 101, 5000} }

// keys gives so many rising numbers out of edges, and some between where those are too few.
func keys(count int, below func(int) int) []int64 {
	all := edges()
	for n := range int64(60) {
		all = append(all, 300*n+5)
	}
	for len(all) > count {
		i := below(len(all))
		all = slices.Delete(all, i, i+1)
	}
	slices.Sort(all)
	return all
}

// grown gives a book that may be, with so many holders, rates and open orders, and a stake of each of some pairs, of numbers like these.
func grown(holders, rates, opens, inHundred int, of []int64, below func(int) int) api.Book {
	b := api.Book{Count: []int64{0, 1, 127, 300, 1 << 32, 1 << 40}[below(6)]}
	any := func() int64 { return of[below(len(of))] }
	great := func() int64 { return max(1, any()) }
	for _, id := range keys(holders, below) {
		b.Holders = append(b.Holders, api.Holder{Id: id, Cash: any(), MaxPos: great(), MaxOrder: great()})
	}
	for _, sym := range keys(rates, below) {
		b.Rates = append(b.Rates, api.Rate{Sym: sym, Price: great()})
	}
	for _, h := range b.Holders {
		for _, r := range b.Rates {
			if qty := any(); below(100) < inHundred && qty != 0 {
				b.Stakes = append(b.Stakes, api.Stake{Acc: h.Id, Sym: r.Sym, Qty: qty})
			}
		}
	}
	if holders > 0 && rates > 0 {
		for _, id := range keys(opens, below) {
			b.Opens = append(b.Opens, api.Open{Id: id, Acc: b.Holders[below(holders)].Id, Sym: b.Rates[below(rates)].Sym, Side: below(2), Left: great(), Price: great()})
		}
	}
	return b
}

// books gives books that may be: an empty one, full ones, and many of few things, with numbers of all sizes and with small ones.
func books() []api.Book {
	below := chance(15)
	list := []api.Book{{}, sample(), grown(32, 32, 64, 100, edges(), below), grown(32, 32, 64, 100, small(), below)}
	for i := range 120 {
		of := small()
		if i%2 == 0 {
			of = edges()
		}
		list = append(list, grown(1+below(5), 1+below(4), below(16), below(101), of, below))
	}
	return list
}

// sample is a book in which each number is another one, but for keys and sides.
func sample() api.Book {
	return api.Book{
		Holders: []api.Holder{{Id: -4, Cash: 1000, MaxPos: 11, MaxOrder: 12}, {Id: 2, Cash: -300, MaxPos: 13, MaxOrder: 14}, {Id: 70, Cash: 0, MaxPos: 15, MaxOrder: 16}},
		Stakes:  []api.Stake{{Acc: -4, Sym: 3, Qty: 21}, {Acc: -4, Sym: 9, Qty: -22}, {Acc: 2, Sym: 3, Qty: 23}, {Acc: 70, Sym: -8, Qty: -24}},
		Opens: []api.Open{{Id: 5, Acc: 2, Sym: 9, Side: 1, Left: 31, Price: 32}, {Id: 6, Acc: -4, Sym: -8, Side: 0, Left: 33, Price: 34},
			{Id: 7, Acc: -4, Sym: 3, Side: 0, Left: 35, Price: 36}, {Id: 8, Acc: -4, Sym: 3, Side: 1, Left: 37, Price: 38}, {Id: 9, Acc: -4, Sym: 3, Side: 0, Left: 39, Price: 40}},
		Rates: []api.Rate{{Sym: -8, Price: 41}, {Sym: 3, Price: 42}, {Sym: 9, Price: 43}},
		Count: 5000,
	}
}

// accounts gives those of a book, and some that may not be there.
func accounts(b api.Book) []int64 {
	list := []int64{least, -4, 0, 1, 2, 17, most}
	for _, h := range b.Holders {
		list = append(list, h.Id)
	}
	return list
}

// symbols gives those of a book, and some that may not be there.
func symbols(b api.Book) []int64 {
	list := []int64{least, 0, 17, most}
	for _, r := range b.Rates {
		list = append(list, r.Sym)
	}
	return list
}

// TestBooksOfTheTests tells that the books with which the other tests begin may be.
func TestBooksOfTheTests(t *testing.T) {
	for i, b := range books() {
		if !book.May(b) {
			t.Errorf("the book %d may not be: %s", i, brief(b))
		}
	}
}
