package diff_test

import (
	"fmt"
	"math"
	"slices"
	"testing"

	"engross/api"
	"engross/book"
	"engross/diff"
)

// What the package is held against: the chapter's words, over a map of keys and values. Whether a book may be is layer 12's word.

const (
	least = math.MinInt64
	most  = math.MaxInt64
)

// place is a list and a key in it.
type place [3]int64

// things are what has a place in a book, with its values.
type things map[place][]int64

// thingsOf gives what a book has.
func thingsOf(b api.Book) things {
	m := things{{5, 0, 0}: {b.Count}}
	for _, h := range b.Holders {
		m[place{1, h.Id, 0}] = []int64{h.Cash, h.MaxPos, h.MaxOrder}
	}
	for _, s := range b.Stakes {
		m[place{2, s.Acc, s.Sym}] = []int64{s.Qty}
	}
	for _, o := range b.Opens {
		m[place{3, o.Id, 0}] = []int64{o.Acc, o.Sym, int64(o.Side), o.Left, o.Price}
	}
	for _, r := range b.Rates {
		m[place{4, r.Sym, 0}] = []int64{r.Price}
	}
	return m
}

// places gives all places of maps, rising, none twice.
func places(maps ...things) []place {
	var l []place
	for _, m := range maps {
		for p := range m {
			l = append(l, p)
		}
	}
	slices.SortFunc(l, func(p, q place) int { return slices.Compare(p[:], q[:]) })
	return slices.Compact(l)
}

// book gives the book that has these things.
func (m things) book() api.Book {
	var b api.Book
	for _, p := range places(m) {
		v := m[p]
		switch p[0] {
		case 1:
			b.Holders = append(b.Holders, api.Holder{Id: p[1], Cash: v[0], MaxPos: v[1], MaxOrder: v[2]})
		case 2:
			b.Stakes = append(b.Stakes, api.Stake{Acc: p[1], Sym: p[2], Qty: v[0]})
		case 3:
			b.Opens = append(b.Opens, api.Open{Id: p[1], Acc: v[0], Sym: v[1], Side: int(v[2]), Left: v[3], Price: v[4]})
		case 4:
			b.Rates = append(b.Rates, api.Rate{Sym: p[1], Price: v[0]})
		case 5:
			b.Count = v[0]
		}
	}
	return b
}

// placeOf gives the place that a change speaks of.
func placeOf(c diff.Change) place { return place{int64(c.List), c.A, c.B} }

// wantedDiff gives the changes of two books that may be.
func wantedDiff(a, b api.Book) []diff.Change {
	var l []diff.Change
	x, y := thingsOf(a), thingsOf(b)
	for _, p := range places(x, y) {
		if fmt.Sprint(x[p]) != fmt.Sprint(y[p]) {
			l = append(l, diff.Change{List: int(p[0]), A: p[1], B: p[2], Was: x[p], Is: y[p]})
		}
	}
	return l
}

// mayBe tells whether changes may be, rule by rule.
func mayBe(l []diff.Change) bool {
	numbers := [6]int{1: 3, 2: 1, 3: 5, 4: 1, 5: 1}
	for i, c := range l {
		if i > 0 {
			p, q := placeOf(l[i-1]), placeOf(c)
			if p[0] > q[0] || p[0] == q[0] && p[1] > q[1] || p[0] == q[0] && p[1] == q[1] && p[2] >= q[2] {
				return false
			}
		}
		if c.List < 1 || c.List > 5 {
			return false
		}
		for _, v := range [][]int64{c.Was, c.Is} {
			if len(v) != 0 && len(v) != numbers[c.List] {
				return false
			}
			if c.List == 3 && len(v) == 5 && (v[2] < 0 || v[2] > 1) {
				return false
			}
			if c.List == 5 && len(v) == 0 {
				return false
			}
		}
		if len(c.Was) == 0 && len(c.Is) == 0 || fmt.Sprint(c.Was) == fmt.Sprint(c.Is) {
			return false
		}
		if c.List != 2 && c.B != 0 || c.List == 5 && c.A != 0 {
			return false
		}
	}
	return true
}

// wantedPatch gives what Patch tells.
func wantedPatch(a api.Book, l []diff.Change) (api.Book, api.Errno) {
	if !book.May(a) {
		return api.Book{}, api.ErrArg
	}
	if !mayBe(l) {
		return api.Book{}, api.ErrForm
	}
	m := thingsOf(a)
	for _, c := range l {
		if fmt.Sprint(m[placeOf(c)]) != fmt.Sprint(c.Was) {
			return api.Book{}, api.ErrNone
		}
		if len(c.Is) == 0 {
			delete(m, placeOf(c))
		} else {
			m[placeOf(c)] = c.Is
		}
	}
	if b := m.book(); book.May(b) {
		return b, api.OK
	}
	return api.Book{}, api.ErrArg
}

// brief tells of a thing in few words.
func brief(thing any) string {
	s := fmt.Sprintf("%v", thing)
	return s[:min(len(s), 300)]
}

// alike tells whether changes are alike.
func alike(a, b []diff.Change) bool {
	if len(a) != len(b) {
		return false
	}
	for i := range a {
		if placeOf(a[i]) != placeOf(b[i]) || !slices.Equal(a[i].Was, b[i].Was) || !slices.Equal(a[i].Is, b[i].Is) {
			return false
		}
	}
	return true
}

// asWorded fails where Patch tells something else than the chapter's words; it tells the error.
func asWorded(t *testing.T, a api.Book, l []diff.Change) api.Errno {
	t.Helper()
	want, e := wantedPatch(a, l)
	if b, f := diff.Patch(a, l); f != e || !book.Same(b, want) {
		t.Errorf("Patch of %s by %s: %s, error %d, not %s, error %d", brief(a), brief(l), brief(b), f, brief(want), e)
	}
	return e
}

// refused fails where Patch doesn't tell just the error.
func refused(t *testing.T, a api.Book, l []diff.Change, e api.Errno) {
	t.Helper()
	if b, f := diff.Patch(a, l); f != e || !book.Same(b, api.Book{}) {
		t.Errorf("Patch of %s by %s: %s, error %d, not %d", brief(a), brief(l), brief(b), f, e)
	}
}

// chance gives numbers below what it is asked for, others of each seed.
func chance(seed uint64) func(n int) int {
	return func(n int) int {
		seed = seed*6364136223846793005 + 1442695040888963407
		return int(seed >> 33 % uint64(n))
	}
}

// edges are numbers at the ends of what fits, and some between, with both signs, rising.
func edges() []int64 {
	return []int64{least, least + 1, -1 << 62, -1<<32 - 1, -1 << 32, -1 << 31, -65, -64, -2, -1, 0, 1, 2, 3, 63, 64, 1<<31 - 1, 1 << 31, 1 << 32, 1<<32 + 1, 1 << 62, most - 1, most}
}

// keys gives so many rising numbers out of edges, and some between where those are too few.
func keys(count int, below func(int) int) []int64 {
	all := edges()
	for n := range int64(60) {
		all = append(all, 300*n+5)
	}
	for len(all) > count {
		i := below(len(all))
		all = slices.Delete(all, i, i+1)
	}
	slices.Sort(all)
	return all
}

// grown gives a book that may be, with so many holders, rates and open orders, and a stake of each of some pairs.
func grown(holders, rates, opens, inHundred int, below func(int) int) api.Book {
	all, greats := edges(), []int64{0, 1, 7, 1 << 32, most - 1, most}
	b := api.Book{Count: []int64{0, 1, 127, 128, 300, 1 << 32, 1<<40 - 1, 1 << 40}[below(8)]}
	for _, id := range keys(holders, below) {
		b.Holders = append(b.Holders, api.Holder{Id: id, Cash: all[below(len(all))], MaxPos: greats[below(6)], MaxOrder: greats[below(6)]})
	}
	for _, sym := range keys(rates, below) {
		b.Rates = append(b.Rates, api.Rate{Sym: sym, Price: greats[1+below(5)]})
	}
	for _, h := range b.Holders {
		for _, r := range b.Rates {
			if below(100) < inHundred {
				b.Stakes = append(b.Stakes, api.Stake{Acc: h.Id, Sym: r.Sym, Qty: []int64{least, -5, 1, most}[below(4)]})
			}
		}
	}
	if holders > 0 && rates > 0 {
		for _, id := range keys(opens, below) {
			b.Opens = append(b.Opens, api.Open{Id: id, Acc: b.Holders[below(holders)].Id, Sym: b.Rates[below(rates)].Sym, Side: below(2), Left: greats[1+below(5)], Price: greats[1+below(5)]})
		}
	}
	return b
}

// neighbour gives a book that may be and has some things of a, some with other values, and some things of others.
func neighbour(a api.Book, below func(int) int) api.Book {
	b := book.Copy(a)
	other := func(n int64) int64 { return []int64{n, 1, 2, most}[below(4)] }
	for i := range b.Holders {
		b.Holders[i].MaxPos = other(b.Holders[i].MaxPos)
		b.Holders[i].Cash = other(b.Holders[i].Cash)
	}
	for i := range b.Stakes {
		b.Stakes[i].Qty = other(b.Stakes[i].Qty)
	}
	for i := range b.Opens {
		b.Opens[i].Left = other(b.Opens[i].Left)
		b.Opens[i].Side = below(2)
	}
	for i := range b.Rates {
		b.Rates[i].Price = other(b.Rates[i].Price)
	}
	gone := func() bool { return below(6) == 0 }
	b.Opens = slices.DeleteFunc(b.Opens, func(api.Open) bool { return gone() })
	b.Stakes = slices.DeleteFunc(b.Stakes, func(api.Stake) bool { return gone() })
	b.Count = []int64{a.Count, 9, a.Count / 2}[below(3)]
	if gone() && len(b.Holders) < api.MaxAccounts {
		b = book.SetHolder(b, api.Holder{Id: int64(below(100)), Cash: 4})
	}
	if gone() && len(b.Rates) < api.MaxQuotes {
		b = book.SetRate(b, api.Rate{Sym: int64(below(100)), Price: 4})
	}
	if gone() && len(b.Holders) > 0 {
		b = without(b, b.Holders[below(len(b.Holders))].Id)
	}
	return b
}

// without gives a book like b without an account, its stakes and its open orders.
func without(b api.Book, id int64) api.Book {
	b.Holders = slices.DeleteFunc(b.Holders, func(h api.Holder) bool { return h.Id == id })
	b.Stakes = slices.DeleteFunc(b.Stakes, func(s api.Stake) bool { return s.Acc == id })
	b.Opens = slices.DeleteFunc(b.Opens, func(o api.Open) bool { return o.Acc == id })
	return b
}

// pairs gives two books each that may be: small ones, full ones, neighbours, and unlike ones.
func pairs() [][2]api.Book {
	below := chance(41)
	full := grown(32, 32, 64, 100, chance(3))
	list := [][2]api.Book{{}, {{}, {Count: 1}}, {{}, full}, {full, grown(32, 32, 64, 100, chance(4))}, {full, neighbour(full, below)}, {sample(), {}}}
	for i := range 300 {
		a := grown(below(9), below(9), below(12), below(101), below)
		b := neighbour(a, below)
		if i%3 == 0 {
			b = grown(below(9), below(9), below(12), below(101), below)
		}
		list = append(list, [2]api.Book{a, b})
	}
	return list
}

// sample is a book in which each number is another one, but for keys and a Side of 1.
func sample() api.Book {
	return api.Book{
		Holders: []api.Holder{{Id: -4, Cash: 1000, MaxPos: 11, MaxOrder: 12}, {Id: 2, Cash: -300, MaxPos: 13, MaxOrder: 14}, {Id: 70, Cash: 0, MaxPos: 15, MaxOrder: 16}},
		Stakes:  []api.Stake{{Acc: -4, Sym: 3, Qty: 21}, {Acc: -4, Sym: 9, Qty: -22}, {Acc: 2, Sym: 3, Qty: 23}, {Acc: 70, Sym: -8, Qty: -24}},
		Opens:   []api.Open{{Id: 5, Acc: 2, Sym: 9, Side: 1, Left: 31, Price: 32}, {Id: 6, Acc: -4, Sym: -8, Side: 0, Left: 33, Price: 34}},
		Rates:   []api.Rate{{Sym: -8, Price: 41}, {Sym: 3, Price: 42}, {Sym: 9, Price: 43}},
		Count:   5000,
	}
}

// TestBooksOfTheTests tells that what the other tests begin with is what they take it for.
func TestBooksOfTheTests(t *testing.T) {
	unlike := 0
	for i, p := range pairs() {
		for _, b := range p {
			if !book.May(b) || !book.Same(thingsOf(b).book(), b) {
				t.Errorf("the book %d may not be: %s", i, brief(b))
			}
		}
		if !book.Same(p[0], p[1]) {
			unlike++
		}
	}
	if unlike < 250 {
		t.Errorf("only %d pairs are unlike", unlike)
	}
}
