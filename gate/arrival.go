package gate

import (
	"math"

	"engross/api"
	"engross/book"
	"engross/margin"
	"engross/money"
)

// arrival is an event that comes to a book that may be, at a rate of the margin.
type arrival struct {
	book  api.Book
	event api.Event
	rate  int
}

// row gives all that is looked at, in order.
func (a *arrival) row() []look {
	kind := int64(a.event.Kind)
	row := []look{plain(kindAtLeast, kind, api.Account), plain(kindAtMost, kind, api.Snap)}
	// Of another kind one of these doesn't hold, and nothing stands behind them.
	if ofKind, known := a.rows()[a.event.Kind]; known {
		row = append(row, ofKind()...)
	}
	return row
}

// rows gives by kinds what gives the looks of their own.
func (a *arrival) rows() map[int]func() []look {
	return map[int]func() []look{
		api.Account: a.ofAccount,
		api.Limit:   a.ofLimit,
		api.Quote:   a.ofQuote,
		api.Order:   a.ofOrder,
		api.Fill:    a.ofFill,
		api.Cancel:  a.ofCancel,
		api.Snap:    a.ofSnap,
	}
}

func (a *arrival) ofAccount() []look {
	_, known := a.holder()
	return []look{
		plain(cash, a.event.Qty, 0),
		there(accountNew, known, false),
		room(roomOfAccounts, len(a.book.Holders), api.MaxAccounts),
	}
}

func (a *arrival) ofLimit() []look {
	_, known := a.holder()
	return []look{
		there(accountKnown, known, true),
		plain(limitOfPosition, a.event.Qty, 0),
		plain(limitOfOrder, a.event.Price, 0),
	}
}

func (a *arrival) ofQuote() []look {
	row := []look{plain(price, a.event.Price, 1)}
	// A symbol that has a rate needs no room for another one.
	if !a.priced() {
		row = append(row, room(roomOfPrices, len(a.book.Rates), api.MaxQuotes))
	}
	return row
}

func (a *arrival) ofOrder() []look {
	e := a.event
	h, known := a.holder()
	_, taken := a.order()
	return []look{
		plain(sideAtLeast, int64(e.Side), 0),
		plain(sideAtMost, int64(e.Side), 1),
		plain(quantity, e.Qty, 1),
		plain(price, e.Price, 1),
		there(accountKnown, known, true),
		there(orderNew, taken, false),
		there(symbolPriced, a.priced(), true),
		room(roomOfOrders, len(a.book.Opens), api.MaxOrders),
		exact(worth, func() (int64, int64, bool) {
			much, fits := money.Mul(e.Qty, e.Price)
			return much, h.MaxOrder, fits
		}),
		exact(reach, func() (int64, int64, bool) {
			far, fits := margin.Reach(a.book, e.Acc, e.Sym, e.Side, e.Qty)
			return far, h.MaxPos, fits
		}),
		exact(enough, func() (int64, int64, bool) {
			need, needFits := margin.Need(a.book, e.Acc, e.Qty, e.Price, a.rate)
			equity, equityFits := margin.Equity(a.book, e.Acc)
			return need, equity, needFits && equityFits
		}),
	}
}

func (a *arrival) ofFill() []look {
	o, known := a.order()
	return []look{
		there(orderKnown, known, true),
		plain(quantity, a.event.Qty, 1),
		plain(price, a.event.Price, 1),
		plain(filled, a.event.Qty, o.Left),
		exact(cashBehind, func() (int64, int64, bool) {
			left, _, fits, _ := margin.After(a.book, o, a.event.Qty, a.event.Price)
			return left, left, fits
		}),
		exact(positionBehind, func() (int64, int64, bool) {
			_, stake, _, fits := margin.After(a.book, o, a.event.Qty, a.event.Price)
			return stake, stake, fits
		}),
	}
}

func (a *arrival) ofCancel() []look {
	_, known := a.order()
	return []look{there(orderKnown, known, true)}
}

func (a *arrival) ofSnap() []look { return nil }

// done gives a book, of memory of its own, in which what the event says is done, where all its rules hold.
func (a *arrival) done() api.Book {
	b, e := a.book, a.event
	switch e.Kind {
	case api.Account:
		return book.SetHolder(b, api.Holder{Id: e.Acc, Cash: e.Qty, MaxPos: math.MaxInt64, MaxOrder: math.MaxInt64})
	case api.Limit:
		h, _ := a.holder()
		h.MaxPos, h.MaxOrder = e.Qty, e.Price
		return book.SetHolder(b, h)
	case api.Quote:
		return book.SetRate(b, api.Rate{Sym: e.Sym, Price: e.Price})
	case api.Order:
		return book.SetOpen(b, api.Open{Id: e.Ord, Acc: e.Acc, Sym: e.Sym, Side: e.Side, Left: e.Qty, Price: e.Price})
	case api.Fill:
		return a.filled()
	case api.Cancel:
		return book.SetOpen(b, api.Open{Id: e.Ord})
	}
	return book.Copy(b)
}

// filled gives a book in which the event's fill is done.
func (a *arrival) filled() api.Book {
	o, _ := a.order()
	h, _ := book.Holder(a.book, o.Acc)
	left, stake, _, _ := margin.After(a.book, o, a.event.Qty, a.event.Price)
	h.Cash = left
	o.Left -= a.event.Qty
	b := book.SetHolder(a.book, h)
	b = book.SetStake(b, api.Stake{Acc: o.Acc, Sym: o.Sym, Qty: stake})
	return book.SetOpen(b, o)
}

// holder gives the event's account, and whether it is there.
func (a *arrival) holder() (api.Holder, bool) { return book.Holder(a.book, a.event.Acc) }

// order gives the open order of the event's number, and whether it is there.
func (a *arrival) order() (api.Open, bool) { return book.Open(a.book, a.event.Ord) }

// priced tells whether the event's symbol has a rate.
func (a *arrival) priced() bool {
	_, has := book.Rate(a.book, a.event.Sym)
	return has
}
