package margin

import (
	"iter"

	"engross/api"
	"engross/book"
)

// cash gives the account's cash.
func cash(b api.Book, acc int64) int64 {
	h, _ := book.Holder(b, acc)
	return h.Cash
}

// stakes tells the Qty of each of the account's stakes, and its symbol's price.
func stakes(b api.Book, acc int64) iter.Seq2[int64, int64] {
	return func(yield func(qty, price int64) bool) {
		for _, s := range b.Stakes {
			if s.Acc != acc {
				continue
			}
			if price, _ := book.Rate(b, s.Sym); !yield(s.Qty, price) {
				return
			}
		}
	}
}

// sizes tells of each of the account's stakes two numbers whose product is the Qty without its sign times its symbol's price.
func sizes(b api.Book, acc int64) iter.Seq2[int64, int64] {
	return func(yield func(size, at int64) bool) {
		for qty, price := range stakes(b, acc) {
			// The price takes the sign, as the least Qty doesn't fit without it.
			if qty < 0 {
				price = -price
			}
			if !yield(qty, price) {
				return
			}
		}
	}
}

// orders tells the account's open orders.
func orders(b api.Book, acc int64) iter.Seq[api.Open] {
	return func(yield func(o api.Open) bool) {
		for _, o := range b.Opens {
			if o.Acc == acc && !yield(o) {
				return
			}
		}
	}
}

// signOf gives the sign with which an order of the side changes the stake, and whether there is such a side.
func signOf(side int) (int64, bool) {
	switch side {
	case 0:
		return 1, true
	case 1:
		return -1, true
	}
	return 0, false
}

// product hands to add what makes sign, which is 1 or -1, times a times b.
func product(add func(a, b int64), sign, a, b int64) {
	if sign > 0 {
		add(a, b)
		return
	}
	// ^a is one less than a with the other sign, and always fits.
	add(^a, b)
	add(b, 1)
}
