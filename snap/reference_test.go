package snap_test

import (
	"encoding/binary"
	"fmt"
	"math"
	"slices"
	"strings"
	"testing"

	"engross/api"
	"engross/book"
	"engross/snap"
)

// What the package is held against: the chapter's words, over columns that stand in an array, with the library's numbers as bytes. Whether a book may be is layer 12's word.

const (
	least = math.MinInt64
	most  = math.MaxInt64
)

// columns are those of a book, in the order of its bytes.
type columns [15][]int64

// mosts says how many numbers each column may have.
var mosts = [15]int{32, 32, 32, 32, 1024, 1024, 1024, 64, 64, 64, 64, 64, 64, 32, 32}

// firsts says of each column which is the first one of its list.
var firsts = [15]int{0, 0, 0, 0, 4, 4, 4, 7, 7, 7, 7, 7, 7, 13, 13}

// columnsOf gives a book's columns.
func columnsOf(b api.Book) columns {
	var c columns
	for _, h := range b.Holders {
		c.behind(0, h.Id, h.Cash, h.MaxPos, h.MaxOrder)
	}
	for _, s := range b.Stakes {
		c.behind(4, s.Acc, s.Sym, s.Qty)
	}
	for _, o := range b.Opens {
		c.behind(7, o.Id, o.Acc, o.Sym, int64(o.Side), o.Left, o.Price)
	}
	for _, r := range b.Rates {
		c.behind(13, r.Sym, r.Price)
	}
	return c
}

// behind puts a number behind each of the columns from this one on.
func (c *columns) behind(first int, numbers ...int64) {
	for i, n := range numbers {
		c[first+i] = append(c[first+i], n)
	}
}

// twin gives the same columns in memory of their own.
func (c columns) twin() columns {
	for i := range c {
		c[i] = slices.Clone(c[i])
	}
	return c
}

// even tells whether the columns of each list have as many numbers.
func (c columns) even() bool {
	for i := range c {
		if len(c[i]) != len(c[firsts[i]]) {
			return false
		}
	}
	return true
}

// book gives the book that has these columns, which are even.
func (c columns) book(count uint64) api.Book {
	b := api.Book{Count: int64(count)}
	for i := range c[0] {
		b.Holders = append(b.Holders, api.Holder{Id: c[0][i], Cash: c[1][i], MaxPos: c[2][i], MaxOrder: c[3][i]})
	}
	for i := range c[4] {
		b.Stakes = append(b.Stakes, api.Stake{Acc: c[4][i], Sym: c[5][i], Qty: c[6][i]})
	}
	for i := range c[7] {
		b.Opens = append(b.Opens, api.Open{Id: c[7][i], Acc: c[8][i], Sym: c[9][i], Side: int(c[10][i]), Left: c[11][i], Price: c[12][i]})
	}
	for i := range c[13] {
		b.Rates = append(b.Rates, api.Rate{Sym: c[13][i], Price: c[14][i]})
	}
	return b
}

// number gives a number's bytes.
func number(n uint64) string { return string(binary.AppendUvarint(nil, n)) }

// columnText gives a column's bytes.
func columnText(l []int64) string {
	out := binary.AppendUvarint(nil, uint64(len(l)))
	for at := 0; at < len(l); {
		difference := func(i int) int64 {
			if i == 0 {
				return l[0]
			}
			return l[i] - l[i-1]
		}
		behind := at + 1
		for behind < len(l) && difference(behind) == difference(at) {
			behind++
		}
		out = binary.AppendVarint(out, difference(at))
		out = binary.AppendUvarint(out, uint64(behind-at))
		at = behind
	}
	return string(out)
}

// text gives the bytes of Count and of these columns, whatever they are.
func (c columns) text(count uint64) string { return number(count) + c.part(0, 15) }

// part gives the bytes of the columns from one on, up to another.
func (c columns) part(from, to int) string {
	var s strings.Builder
	for _, l := range c[from:to] {
		s.WriteString(columnText(l))
	}
	return s.String()
}

// textOf gives a book's bytes.
func textOf(b api.Book) string { return columnsOf(b).text(uint64(b.Count)) }

// read reads a number from s, and tells what stands behind it.
func read(s string, most uint64) (uint64, string, api.Errno) {
	// The library asks for no more than that a number fits, not for its last digit, and takes ten digits that go on for too few.
	n, size := binary.Uvarint([]byte(s[:min(len(s), 11)]))
	switch {
	case size < 0, size == 0 && len(s) >= 10, size > 1 && s[size-1] == 0:
		return 0, "", api.ErrForm
	case size == 0:
		return 0, "", api.ErrShort
	case n > most:
		return 0, "", api.ErrMany
	}
	return n, s[size:], api.OK
}

// readColumn reads a column from s, and tells what stands behind it.
func readColumn(s string, most int) ([]int64, string, api.Errno) {
	count, s, e := read(s, uint64(most))
	var l []int64
	var n, ahead int64
	for e == api.OK && uint64(len(l)) < count {
		var in, times uint64
		if in, s, e = read(s, math.MaxUint64); e != api.OK {
			break
		}
		if times, s, e = read(s, count-uint64(len(l))); e != api.OK {
			break
		}
		by, _ := binary.Varint([]byte(number(in)))
		if times == 0 || len(l) > 0 && by == ahead {
			return nil, "", api.ErrForm
		}
		for range times {
			n += by
			l = append(l, n)
		}
		ahead = by
	}
	return l, s, e
}

// wanted gives what Get tells of s.
func wanted(s string) (api.Book, api.Errno) {
	count, rest, e := read(s, 1099511627776)
	if e != api.OK {
		return api.Book{}, e
	}
	var c columns
	for i := range c {
		if c[i], rest, e = readColumn(rest, mosts[i]); e != api.OK {
			return api.Book{}, e
		}
	}
	if rest != "" || !c.even() || !book.May(c.book(count)) {
		return api.Book{}, api.ErrForm
	}
	return c.book(count), api.OK
}

// brief tells of a thing in few words.
func brief(thing any) string {
	s := fmt.Sprintf("%v", thing)
	return s[:min(len(s), 200)]
}

// told fails where Get doesn't tell just this of s.
func told(t *testing.T, s string, b api.Book, e api.Errno) {
	t.Helper()
	if got, f := snap.Get(s); f != e || !book.Same(got, b) {
		t.Errorf("Get of %d bytes, %.60q: %s, error %d, not %s, error %d", len(s), s, brief(got), f, brief(b), e)
	}
}

// refused fails where Get doesn't tell just the error of s.
func refused(t *testing.T, s string, e api.Errno) {
	t.Helper()
	told(t, s, api.Book{}, e)
}

// asWorded fails where another thing is told of s than the chapter's words say, or where what is got has other bytes; it tells the error.
func asWorded(t *testing.T, s string) api.Errno {
	t.Helper()
	b, e := wanted(s)
	told(t, s, b, e)
	if e == api.OK {
		if again, f := snap.Put(b); again != s || f != api.OK {
			t.Errorf("%.60q is got as a book whose bytes are %.60q, error %d", s, again, f)
		}
	}
	return e
}

// chance gives numbers below what it is asked for, others of each seed.
func chance(seed uint64) func(n int) int {
	return func(n int) int {
		seed = seed*6364136223846793005 + 1442695040888963407
		return int(seed >> 33 % uint64(n))
	}
}

// edges are numbers at the ends of what fits, and of some lengths of a number's bytes, with both signs, rising.
func edges() []int64 {
	return []int64{least, least + 1, -1 << 62, -1<<32 - 1, -1 << 32, -1 << 31, -65, -64, -2, -1, 0, 1, 2, 3, 63, 64, 1<<31 - 1, 1 << 31, 1 << 32, 1<<32 + 1, 1 << 62, most - 1, most}
}

// keys gives so many rising numbers out of edges, and some between where those are too few.
func keys(count int, below func(int) int) []int64 {
	all := edges()
	for n := range int64(60) {
		all = append(all, 300*n+5)
	}
	for len(all) > count {
		i := below(len(all))
		all = slices.Delete(all, i, i+1)
	}
	slices.Sort(all)
	return all
}

// grown gives a book that may be, with so many holders, rates and open orders, and a stake of each of some pairs.
func grown(holders, rates, opens, inHundred int, below func(int) int) api.Book {
	all, greats := edges(), []int64{0, 1, 7, 1 << 32, most - 1, most}
	b := api.Book{Count: []int64{0, 1, 127, 128, 300, 1 << 32, 1<<40 - 1, 1 << 40}[below(8)]}
	for _, id := range keys(holders, below) {
		b.Holders = append(b.Holders, api.Holder{Id: id, Cash: all[below(len(all))], MaxPos: greats[below(6)], MaxOrder: greats[below(6)]})
	}
	for _, sym := range keys(rates, below) {
		b.Rates = append(b.Rates, api.Rate{Sym: sym, Price: greats[1+below(5)]})
	}
	for _, h := range b.Holders {
		for _, r := range b.Rates {
			if below(100) < inHundred {
				b.Stakes = append(b.Stakes, api.Stake{Acc: h.Id, Sym: r.Sym, Qty: []int64{least, -5, 1, most}[below(4)]})
			}
		}
	}
	if holders > 0 && rates > 0 {
		for _, id := range keys(opens, below) {
			b.Opens = append(b.Opens, api.Open{Id: id, Acc: b.Holders[below(holders)].Id, Sym: b.Rates[below(rates)].Sym, Side: below(2), Left: greats[1+below(5)], Price: greats[1+below(5)]})
		}
	}
	return b
}

// fullest is a book with as many of all things as may be.
func fullest() api.Book { return grown(32, 32, 64, 100, chance(3)) }

// books are such as may be: none, ones with one list, small ones, ones by chance, and the fullest.
func books() []api.Book {
	below := chance(13)
	list := []api.Book{{}, {Count: 1}, {Count: 1 << 40}, grown(1, 0, 0, 0, below), grown(0, 1, 0, 0, below), grown(32, 0, 0, 0, below), grown(0, 32, 0, 0, below), grown(1, 1, 1, 100, below), grown(1, 1, 0, 100, below), grown(1, 1, 1, 0, below), grown(2, 3, 4, 100, below), sample(), fullest()}
	for range 200 {
		list = append(list, grown(below(9), below(9), below(12), below(101), below))
	}
	return list
}

// sample is a book in which each number is another one, but for keys and a Side of 1.
func sample() api.Book {
	return api.Book{
		Holders: []api.Holder{{Id: -4, Cash: 1000, MaxPos: 11, MaxOrder: 12}, {Id: 2, Cash: -300, MaxPos: 13, MaxOrder: 14}, {Id: 70, Cash: 0, MaxPos: 15, MaxOrder: 16}},
		Stakes:  []api.Stake{{Acc: -4, Sym: 3, Qty: 21}, {Acc: -4, Sym: 9, Qty: -22}, {Acc: 2, Sym: 3, Qty: 23}, {Acc: 70, Sym: -8, Qty: -24}},
		Opens:   []api.Open{{Id: 5, Acc: 2, Sym: 9, Side: 1, Left: 31, Price: 32}, {Id: 6, Acc: -4, Sym: -8, Side: 0, Left: 33, Price: 34}},
		Rates:   []api.Rate{{Sym: -8, Price: 41}, {Sym: 3, Price: 42}, {Sym: 9, Price: 43}},
		Count:   5000,
	}
}

// TestBooksOfTheTests tells that what the other tests begin with is what they take it for.
func TestBooksOfTheTests(t *testing.T) {
	for i, b := range books() {
		if !book.May(b) || !book.Same(columnsOf(b).book(uint64(b.Count)), b) {
			t.Errorf("the book %d may not be: %s", i, brief(b))
		}
	}
	if b := fullest(); len(b.Holders) != 32 || len(b.Rates) != 32 || len(b.Opens) != 64 || len(b.Stakes) != 1024 {
		t.Errorf("not the fullest: %d, %d, %d, %d", len(b.Holders), len(b.Rates), len(b.Opens), len(b.Stakes))
	}
}
