package book_test

import (
	"fmt"
	"math"
	"slices"
	"testing"

	"engross/api"
	"engross/book"
)

// What the package is held against: the chapter's words, over lists that are gone through from end to end, and over maps.

const (
	least = math.MinInt64
	most  = math.MaxInt64
)

// What the keys of things are: both numbers of a stake's, one and 0 of the others'.
func holderKey(h api.Holder) [2]int64 { return [2]int64{h.Id, 0} }
func stakeKey(s api.Stake) [2]int64   { return [2]int64{s.Acc, s.Sym} }
func openKey(o api.Open) [2]int64     { return [2]int64{o.Id, 0} }
func rateKey(r api.Rate) [2]int64     { return [2]int64{r.Sym, 0} }

func less(a, b [2]int64) bool { return a[0] < b[0] || a[0] == b[0] && a[1] < b[1] }

// rising tells whether each thing's key is less than those of all behind it.
func rising[T any](l []T, key func(T) [2]int64) bool {
	for i := range l {
		for _, behind := range l[i+1:] {
			if !less(key(l[i]), key(behind)) {
				return false
			}
		}
	}
	return true
}

// mayBe tells whether a book may be.
func mayBe(b api.Book) bool {
	accounts, symbols := map[int64]bool{}, map[int64]bool{}
	ok := len(b.Holders) <= 32 && len(b.Opens) <= 64 && len(b.Rates) <= 32 && b.Count >= 0 && b.Count <= 1099511627776
	for _, h := range b.Holders {
		accounts[h.Id] = true
		ok = ok && h.MaxPos >= 0 && h.MaxOrder >= 0
	}
	for _, r := range b.Rates {
		symbols[r.Sym] = true
		ok = ok && r.Price > 0
	}
	for _, s := range b.Stakes {
		ok = ok && s.Qty != 0 && accounts[s.Acc] && symbols[s.Sym]
	}
	for _, o := range b.Opens {
		ok = ok && o.Left > 0 && o.Price > 0 && (o.Side == 0 || o.Side == 1) && accounts[o.Acc] && symbols[o.Sym]
	}
	return ok && rising(b.Holders, holderKey) && rising(b.Stakes, stakeKey) && rising(b.Opens, openKey) && rising(b.Rates, rateKey)
}

// alike tells whether two books are.
func alike(a, b api.Book) bool {
	return slices.Equal(a.Holders, b.Holders) && slices.Equal(a.Stakes, b.Stakes) && slices.Equal(a.Opens, b.Opens) && slices.Equal(a.Rates, b.Rates) && a.Count == b.Count
}

// twin gives a book like b in memory of its own, with spare room behind each list.
func twin(b api.Book) api.Book {
	return api.Book{Holders: spare(b.Holders), Stakes: spare(b.Stakes), Opens: spare(b.Opens), Rates: spare(b.Rates), Count: b.Count}
}

func spare[T any](l []T) []T { return append(make([]T, 0, len(l)+3), l...) }

// within puts the thing in its place of a rising list, or, if nothing is left of it, takes it out.
func within[T any](l []T, thing T, key func(T) [2]int64, left bool) []T {
	var list []T
	for _, x := range l {
		if less(key(x), key(thing)) {
			list = append(list, x)
		}
	}
	if left {
		list = append(list, thing)
	}
	for _, x := range l {
		if less(key(thing), key(x)) {
			list = append(list, x)
		}
	}
	return list
}

// fields gives where all numbers of a book stand, but Sides.
func fields(b *api.Book) []*int64 {
	list := []*int64{&b.Count}
	for i := range b.Holders {
		h := &b.Holders[i]
		list = append(list, &h.Id, &h.Cash, &h.MaxPos, &h.MaxOrder)
	}
	for i := range b.Stakes {
		s := &b.Stakes[i]
		list = append(list, &s.Acc, &s.Sym, &s.Qty)
	}
	for i := range b.Opens {
		o := &b.Opens[i]
		list = append(list, &o.Id, &o.Acc, &o.Sym, &o.Left, &o.Price)
	}
	for i := range b.Rates {
		r := &b.Rates[i]
		list = append(list, &r.Sym, &r.Price)
	}
	return list
}

// touch sets a field of a book to n.
func touch(b *api.Book, n int64, below func(int) int) {
	if opens := len(b.Opens); opens > 0 && below(8) == 0 {
		b.Opens[below(opens)].Side = int(n)
		return
	}
	all := fields(b)
	*all[below(len(all))] = n
}

// brief tells a book in few words.
func brief(b api.Book) string {
	s := fmt.Sprint(b)
	return s[:min(len(s), 300)]
}

// A set thing is one of the four, and what becomes of a book by it.
type setting struct {
	call, want func(b api.Book) api.Book
}

func holderSet(h api.Holder) setting {
	return setting{
		func(b api.Book) api.Book { return book.SetHolder(b, h) },
		func(b api.Book) api.Book { b = twin(b); b.Holders = within(b.Holders, h, holderKey, true); return b },
	}
}

func stakeSet(s api.Stake) setting {
	return setting{
		func(b api.Book) api.Book { return book.SetStake(b, s) },
		func(b api.Book) api.Book {
			b = twin(b)
			b.Stakes = within(b.Stakes, s, stakeKey, s.Qty != 0)
			return b
		},
	}
}

func openSet(o api.Open) setting {
	return setting{
		func(b api.Book) api.Book { return book.SetOpen(b, o) },
		func(b api.Book) api.Book { b = twin(b); b.Opens = within(b.Opens, o, openKey, o.Left != 0); return b },
	}
}

func rateSet(r api.Rate) setting {
	return setting{
		func(b api.Book) api.Book { return book.SetRate(b, r) },
		func(b api.Book) api.Book { b = twin(b); b.Rates = within(b.Rates, r, rateKey, true); return b },
	}
}

// edges are keys at the ends of what fits, and such as are alike in fewer bits.
func edges() []int64 {
	return []int64{least, least + 1, -1 << 62, -1<<32 - 1, -1 << 32, -1 << 31, -2, -1, 0, 1, 2, 3, 1<<31 - 1, 1 << 31, 1 << 32, 1<<32 + 1, 1 << 62, most - 1, most}
}

// chance gives numbers below what it is asked for, others of each seed.
func chance(seed uint64) func(n int) int {
	return func(n int) int {
		seed = seed*6364136223846793005 + 1442695040888963407
		return int(seed >> 33 % uint64(n))
	}
}

// keys gives so many rising keys out of edges, and numbers about 0 where those are too few.
func keys(count int, below func(int) int) []int64 {
	all := edges()
	for n := int64(-20); n < 20; n++ {
		all = append(all, 10*n+5)
	}
	for len(all) > count {
		i := below(len(all))
		all = slices.Delete(all, i, i+1)
	}
	slices.Sort(all)
	return all
}

// grown gives a book that may be, with so many holders, rates and open orders, and a stake of each of some pairs.
func grown(holders, rates, opens, inHundred int, below func(int) int) api.Book {
	greats := []int64{0, 1, 7, 1 << 32, most - 1, most}
	count := []int64{0, 1, 1 << 32, 1<<40 - 1, 1 << 40}
	b := api.Book{Count: count[below(len(count))]}
	for _, id := range keys(holders, below) {
		all := edges()
		b.Holders = append(b.Holders, api.Holder{Id: id, Cash: all[below(len(all))], MaxPos: greats[below(6)], MaxOrder: greats[below(6)]})
	}
	for _, sym := range keys(rates, below) {
		b.Rates = append(b.Rates, api.Rate{Sym: sym, Price: greats[1+below(5)]})
	}
	for _, h := range b.Holders {
		for _, r := range b.Rates {
			if below(100) < inHundred {
				b.Stakes = append(b.Stakes, api.Stake{Acc: h.Id, Sym: r.Sym, Qty: []int64{least, -1, 1, most}[below(4)]})
			}
		}
	}
	if holders > 0 && rates > 0 {
		for id := range opens {
			b.Opens = append(b.Opens, api.Open{Id: int64(3*id - 90), Acc: b.Holders[below(holders)].Id, Sym: b.Rates[below(rates)].Sym, Side: below(2), Left: greats[1+below(5)], Price: greats[1+below(5)]})
		}
	}
	return b
}

// books are such as may be: none, small ones, ones by chance, and the greatest.
func books() []api.Book {
	below := chance(12)
	list := []api.Book{{}, {Count: 1 << 40}, grown(1, 0, 0, 0, below), grown(0, 1, 0, 0, below), grown(1, 1, 1, 100, below), grown(2, 2, 2, 100, below), grown(3, 3, 5, 50, below), grown(32, 32, 64, 100, below)}
	for range 60 {
		list = append(list, grown(below(9), below(9), below(12), below(101), below))
	}
	return list
}

// TestBooksOfTheTests tells that what the other tests begin with is what they take it for.
func TestBooksOfTheTests(t *testing.T) {
	for i, b := range books() {
		if !mayBe(b) {
			t.Errorf("the book %d may not be: %s", i, brief(b))
		}
	}
	if b := books()[7]; len(b.Holders) != 32 || len(b.Rates) != 32 || len(b.Opens) != 64 || len(b.Stakes) != 1024 {
		t.Errorf("not the greatest: %d, %d, %d, %d", len(b.Holders), len(b.Rates), len(b.Opens), len(b.Stakes))
	}
}
