package diff

import (
	"iter"
	"slices"

	"engross/api"
)

// The lists of a book.
const (
	holders = 1 + iota
	stakes
	opens
	rates
	count
)

// key is a list and the two numbers of a key in it; no list is 0, so no thing has a zero key.
type key [3]int64

// compare tells by keys which of two things is ahead.
func compare(k, o key) int { return slices.Compare(k[:], o[:]) }

// row is a thing of a book: its key and its values.
type row struct {
	key    key
	values []int64
}

func (r row) at() key    { return r.key }
func (c Change) at() key { return key{int64(c.List), c.A, c.B} }

// rows tells all things of a book; of one whose lists rise, the keys rise.
func rows(b api.Book) iter.Seq[row] {
	return func(yield func(row) bool) {
		_ = each(b.Holders, yield, func(h api.Holder) row {
			return row{key{holders, h.Id}, []int64{h.Cash, h.MaxPos, h.MaxOrder}}
		}) && each(b.Stakes, yield, func(s api.Stake) row {
			return row{key{stakes, s.Acc, s.Sym}, []int64{s.Qty}}
		}) && each(b.Opens, yield, func(o api.Open) row {
			return row{key{opens, o.Id}, []int64{o.Acc, o.Sym, int64(o.Side), o.Left, o.Price}}
		}) && each(b.Rates, yield, func(r api.Rate) row {
			return row{key{rates, r.Sym}, []int64{r.Price}}
		}) && yield(row{key{count}, []int64{b.Count}})
	}
}

// each yields a list's things as rows, and tells whether more is wanted.
func each[T any](list []T, yield func(row) bool, as func(thing T) row) bool {
	for _, thing := range list {
		if !yield(as(thing)) {
			return false
		}
	}
	return true
}

// lay puts a row behind all of its list in the book b. The book's own calls won't do: they take a thing of which nothing is left out, and such a book may not be.
func lay(b *api.Book, r row) {
	a, v := r.key[1], r.values
	switch r.key[0] {
	case holders:
		b.Holders = append(b.Holders, api.Holder{Id: a, Cash: v[0], MaxPos: v[1], MaxOrder: v[2]})
	case stakes:
		b.Stakes = append(b.Stakes, api.Stake{Acc: a, Sym: r.key[2], Qty: v[0]})
	case opens:
		b.Opens = append(b.Opens, api.Open{Id: a, Acc: v[0], Sym: v[1], Side: int(v[2]), Left: v[3], Price: v[4]})
	case rates:
		b.Rates = append(b.Rates, api.Rate{Sym: a, Price: v[0]})
	case count:
		b.Count = v[0]
	}
}

// beside tells what has a key in x, in y or in both, both rising, by its keys; the one that isn't there is a zero one.
func beside[X, Y interface{ at() key }](x iter.Seq[X], y []Y) iter.Seq2[X, Y] {
	return func(yield func(X, Y) bool) {
		rest := y
		alone := func(things []Y) bool {
			var none X
			for _, thing := range things {
				if !yield(none, thing) {
					return false
				}
			}
			return true
		}
		for thing := range x {
			i, there := slices.BinarySearchFunc(rest, thing.at(), func(other Y, k key) int { return compare(other.at(), k) })
			if !alone(rest[:i]) {
				return
			}
			var other Y
			if there {
				other = rest[i]
				i++
			}
			rest = rest[i:]
			if !yield(thing, other) {
				return
			}
		}
		alone(rest)
	}
}
