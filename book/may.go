package book

import "engross/api"

// greatest is the greatest Count.
const greatest = 1 << 40

// May tells whether the book b may be.
func May(b api.Book) bool {
	// What is there is found only in lists that rise.
	return few(b) && rise(b) && allMay(b)
}

// few tells whether Count, and how many things b has, are within their limits; stakes have none of their own.
func few(b api.Book) bool {
	return len(b.Holders) <= api.MaxAccounts && len(b.Opens) <= api.MaxOrders && len(b.Rates) <= api.MaxQuotes &&
		b.Count >= 0 && b.Count <= greatest
}

// rise tells whether each list of b rises, no key twice.
func rise(b api.Book) bool {
	return rises(b.Holders, func(x, y api.Holder) int { return byHolder(x, y.Id) }) &&
		rises(b.Stakes, func(x, y api.Stake) int { return byStake(x, pair{y.Acc, y.Sym}) }) &&
		rises(b.Opens, func(x, y api.Open) int { return byOpen(x, y.Id) }) &&
		rises(b.Rates, func(x, y api.Rate) int { return byRate(x, y.Sym) })
}

// rises tells whether each thing of the list is less than the one behind it.
func rises[T any](list []T, compare func(x, y T) int) bool {
	for i := 1; i < len(list); i++ {
		if compare(list[i-1], list[i]) >= 0 {
			return false
		}
	}
	return true
}

// allMay tells whether each thing of b may be, of a book whose lists rise.
func allMay(b api.Book) bool {
	there := func(acc, sym int64) bool {
		_, account := Holder(b, acc)
		_, symbol := Rate(b, sym)
		return account && symbol
	}
	return all(b.Holders, func(h api.Holder) bool { return h.MaxPos >= 0 && h.MaxOrder >= 0 }) &&
		all(b.Rates, func(r api.Rate) bool { return r.Price >= 1 }) &&
		all(b.Stakes, func(s api.Stake) bool { return s.Qty != 0 && there(s.Acc, s.Sym) }) &&
		all(b.Opens, func(o api.Open) bool {
			return o.Left >= 1 && o.Price >= 1 && (o.Side == 0 || o.Side == 1) && there(o.Acc, o.Sym)
		})
}

// all tells whether each thing of the list may be.
func all[T any](list []T, may func(thing T) bool) bool {
	for _, thing := range list {
		if !may(thing) {
			return false
		}
	}
	return true
}
