package gate_test

import (
	"slices"
	"testing"

	"engross/api"
	"engross/book"
	"engross/gate"
)

// sample is a book in which account 1 has limits, cash, a stake and orders on both sides; account 2 has none of these.
func sample() api.Book {
	return api.Book{
		Holders: []api.Holder{{Id: 1, Cash: 100, MaxPos: 10, MaxOrder: 60}, {Id: 2, Cash: 9, MaxPos: most, MaxOrder: most}},
		Stakes:  []api.Stake{{Acc: 1, Sym: 3, Qty: 2}},
		Opens:   []api.Open{{Id: 7, Acc: 1, Sym: 3, Side: 0, Left: 4, Price: 6}, {Id: 8, Acc: 1, Sym: 3, Side: 1, Left: 3, Price: 9}},
		Rates:   []api.Rate{{Sym: 3, Price: 5}, {Sym: 4, Price: 7}},
		Count:   5,
	}
}

// s gives a step.
func s(rule int, left, right int64) api.Step { return api.Step{Rule: rule, Left: left, Right: right} }

// over gives a step with a side that doesn't fit.
func over(rule int) api.Step { return api.Step{Rule: rule, Over: true} }

// kind gives both steps that stand ahead, and those behind them.
func kind(k int64, l ...api.Step) []api.Step { return append([]api.Step{s(1, k, 1), s(2, k, 7)}, l...) }

// answers fails where Step doesn't answer just these steps and this verdict, at the rate 50.
func answers(t *testing.T, b api.Book, e api.Event, v api.Verdict, steps []api.Step) api.Book {
	t.Helper()
	behind, gv, gs, fault := gate.Step(b, e, 50)
	if gv != v || !slices.Equal(gs, steps) || fault != api.OK {
		t.Errorf("Step of %v: %v %v %d, not %v %v", e, gv, gs, fault, v, steps)
	}
	stepped(t, b, e, 50)
	return behind
}

// refuses fails where Step doesn't answer just these steps and this code, or changes more than Count.
func refuses(t *testing.T, b api.Book, e api.Event, code int, steps []api.Step) {
	t.Helper()
	behind := answers(t, b, e, api.Verdict{Code: code}, steps)
	want := book.Copy(b)
	want.Count++
	if !book.Same(behind, want) {
		t.Errorf("behind %v: %v", e, behind)
	}
}

// accepts fails where Step doesn't answer just these steps, and accept and a need, or isn't followed by the sample with this done.
func accepts(t *testing.T, e api.Event, need int64, steps []api.Step, done func(b *api.Book)) {
	t.Helper()
	behind := answers(t, sample(), e, api.Verdict{Need: need}, steps)
	want := sample()
	want.Count = 6
	done(&want)
	if !book.Same(behind, want) {
		t.Errorf("behind %v: %v, not %v", e, behind, want)
	}
}

// P17.1: kinds that there aren't.
func TestKinds(t *testing.T) {
	for _, k := range []int{0, -1, -7, least, least + 4, -1<<32 + 1, -256 + 7} {
		refuses(t, sample(), api.Event{Kind: k, Acc: 9, Qty: 1, Price: 1}, api.BadKind, []api.Step{s(1, int64(k), 1)})
	}
	for _, k := range []int{8, 9, 256 + 7, 1 << 32, 1<<32 + 1, most, most - 1} {
		refuses(t, sample(), api.Event{Kind: k, Acc: 9, Qty: 1, Price: 1}, api.BadKind, []api.Step{s(1, int64(k), 1), s(2, int64(k), 7)})
	}
}

// P17.1: of Account and Limit.
func TestAccountAndLimit(t *testing.T) {
	b := sample()
	refuses(t, b, api.Event{Kind: api.Account, Acc: 1, Qty: -1}, api.BadValue, kind(1, s(7, -1, 0)))
	refuses(t, b, api.Event{Kind: api.Account, Acc: 9, Qty: least}, api.BadValue, kind(1, s(7, least, 0)))
	refuses(t, b, api.Event{Kind: api.Account, Acc: 2, Qty: 0}, api.DupAccount, kind(1, s(7, 0, 0), s(11, 1, 0)))
	refuses(t, b, api.Event{Kind: api.Limit, Acc: 3, Qty: -1, Price: -1}, api.NoAccount, kind(2, s(10, 0, 1)))
	refuses(t, b, api.Event{Kind: api.Limit, Acc: 1, Qty: -1, Price: -1}, api.BadValue, kind(2, s(10, 1, 1), s(8, -1, 0)))
	refuses(t, b, api.Event{Kind: api.Limit, Acc: 1, Qty: 0, Price: -1}, api.BadValue, kind(2, s(10, 1, 1), s(8, 0, 0), s(9, -1, 0)))

	accepts(t, api.Event{Kind: api.Account, Acc: -5, Qty: 0, Price: -4, Side: 9, Sym: 1, Ord: 7}, 0, kind(1, s(7, 0, 0), s(11, 0, 0), s(15, 2, 31)), func(b *api.Book) {
		b.Holders = append([]api.Holder{{Id: -5, MaxPos: most, MaxOrder: most}}, b.Holders...)
	})
	accepts(t, api.Event{Kind: api.Account, Acc: most, Qty: most}, 0, kind(1, s(7, most, 0), s(11, 0, 0), s(15, 2, 31)), func(b *api.Book) {
		b.Holders = append(b.Holders, api.Holder{Id: most, Cash: most, MaxPos: most, MaxOrder: most})
	})
	accepts(t, api.Event{Kind: api.Limit, Acc: 1, Qty: 0, Price: 4, Side: 9}, 0, kind(2, s(10, 1, 1), s(8, 0, 0), s(9, 4, 0)), func(b *api.Book) {
		b.Holders[0].MaxPos, b.Holders[0].MaxOrder = 0, 4
	})
	accepts(t, api.Event{Kind: api.Limit, Acc: 2, Qty: 3, Price: 0}, 0, kind(2, s(10, 1, 1), s(8, 3, 0), s(9, 0, 0)), func(b *api.Book) {
		b.Holders[1].MaxPos, b.Holders[1].MaxOrder = 3, 0
	})
}

// P17.1: of Quote; of a symbol with a rate nobody asks for room.
func TestQuote(t *testing.T) {
	refuses(t, sample(), api.Event{Kind: api.Quote, Sym: 3}, api.BadValue, kind(3, s(6, 0, 1)))
	refuses(t, sample(), api.Event{Kind: api.Quote, Sym: 9, Price: least}, api.BadValue, kind(3, s(6, least, 1)))
	accepts(t, api.Event{Kind: api.Quote, Sym: 3, Price: most, Qty: -1}, 0, kind(3, s(6, most, 1)), func(b *api.Book) { b.Rates[0].Price = most })
	accepts(t, api.Event{Kind: api.Quote, Sym: -3, Price: 1}, 0, kind(3, s(6, 1, 1), s(17, 2, 31)), func(b *api.Book) {
		b.Rates = append([]api.Rate{{Sym: -3, Price: 1}}, b.Rates...)
	})
}

// P17.1: of Order, one rule behind the other: each event breaks all behind its last step that it can.
func TestOrder(t *testing.T) {
	b := sample()
	e := api.Event{Kind: api.Order, Acc: 5, Ord: 7, Sym: 5, Side: -1}
	l := kind(4, s(3, -1, 0))
	refuses(t, b, e, api.BadValue, l)
	e.Side, l = 2, kind(4, s(3, 2, 0), s(4, 2, 1))
	refuses(t, b, e, api.BadValue, l)
	e.Side, l = 1, kind(4, s(3, 1, 0), s(4, 1, 1), s(5, 0, 1))
	refuses(t, b, e, api.BadValue, l)
	e.Qty, l[4].Left = 11, 11
	l = append(l, s(6, 0, 1))
	refuses(t, b, e, api.BadValue, l)
	e.Price, l[5].Left = 6, 6
	l = append(l, s(10, 0, 1))
	refuses(t, b, e, api.NoAccount, l)
	e.Acc, l[6].Left = 1, 1
	l = append(l, s(12, 1, 0))
	refuses(t, b, e, api.DupOrder, l)
	e.Ord, l[7].Left = 9, 0
	l = append(l, s(14, 0, 1))
	refuses(t, b, e, api.NoPrice, l)
	e.Sym, l[8].Left = 3, 1
	l = append(l, s(16, 2, 63), s(18, 66, 60))
	refuses(t, b, e, api.OverOrder, l)
	// Sold are 11, and 3 that are open, less the stake of 2.
	e.Price, l[5].Left, l[10] = 5, 5, s(18, 55, 60)
	l = append(l, s(19, 12, 10))
	refuses(t, b, e, api.OverPosition, l)
	// Needed is half of the stake's 10, the orders' 24 and 27, and 45; there are 100 and 10.
	e.Qty, l[4].Left, l[10].Left, l[11].Left = 9, 9, 45, 10
	l = append(l, s(20, 53, 110))
	accepts(t, e, 53, l, func(b *api.Book) {
		b.Opens = append(b.Opens, api.Open{Id: 9, Acc: 1, Sym: 3, Side: 1, Left: 9, Price: 5})
	})
	// What account 1 has is no part of what account 2 needs.
	e, l = api.Event{Kind: api.Order, Acc: 2, Ord: 0, Sym: 4, Qty: 19, Price: 1}, kind(4, s(3, 0, 0), s(4, 0, 1), s(5, 19, 1), s(6, 1, 1), s(10, 1, 1), s(12, 0, 0), s(14, 1, 1), s(16, 2, 63), s(18, 19, most), s(19, 19, most), s(20, 10, 9))
	refuses(t, b, e, api.NoMargin, l)
	e.Qty, l[4].Left, l[10].Left, l[11].Left, l[12].Left = 18, 18, 18, 18, 9
	accepts(t, e, 9, l, func(b *api.Book) {
		b.Opens = append([]api.Open{{Id: 0, Acc: 2, Sym: 4, Side: 0, Left: 18, Price: 1}}, b.Opens...)
	})
}

// P17.1: of Fill, one rule behind the other.
func TestFill(t *testing.T) {
	b := sample()
	refuses(t, b, api.Event{Kind: api.Fill, Ord: 1, Acc: 1}, api.NoOrder, kind(5, s(13, 0, 1)))
	refuses(t, b, api.Event{Kind: api.Fill, Ord: 7}, api.BadValue, kind(5, s(13, 1, 1), s(5, 0, 1)))
	refuses(t, b, api.Event{Kind: api.Fill, Ord: 7, Qty: 5}, api.BadValue, kind(5, s(13, 1, 1), s(5, 5, 1), s(6, 0, 1)))
	refuses(t, b, api.Event{Kind: api.Fill, Ord: 7, Qty: 5, Price: most}, api.BadValue, kind(5, s(13, 1, 1), s(5, 5, 1), s(6, most, 1), s(21, 5, 4)))
	// The event's own account, symbol and side are no part of it; nor is the order's price.
	accepts(t, api.Event{Kind: api.Fill, Acc: 2, Ord: 7, Sym: 4, Side: 1, Qty: 1, Price: 30}, 0, kind(5, s(13, 1, 1), s(5, 1, 1), s(6, 30, 1), s(21, 1, 4), s(22, 70, 70), s(23, 3, 3)), func(b *api.Book) {
		b.Holders[0].Cash, b.Stakes[0].Qty, b.Opens[0].Left = 70, 3, 3
	})
	accepts(t, api.Event{Kind: api.Fill, Acc: 2, Ord: 7, Qty: 4, Price: 30}, 0, kind(5, s(13, 1, 1), s(5, 4, 1), s(6, 30, 1), s(21, 4, 4), s(22, -20, -20), s(23, 6, 6)), func(b *api.Book) {
		b.Holders[0].Cash, b.Stakes[0].Qty, b.Opens = -20, 6, b.Opens[1:]
	})
	accepts(t, api.Event{Kind: api.Fill, Ord: 8, Qty: 3, Price: 1}, 0, kind(5, s(13, 1, 1), s(5, 3, 1), s(6, 1, 1), s(21, 3, 3), s(22, 103, 103), s(23, -1, -1)), func(b *api.Book) {
		b.Holders[0].Cash, b.Stakes[0].Qty, b.Opens = 103, -1, b.Opens[:1]
	})
	accepts(t, api.Event{Kind: api.Fill, Ord: 8, Qty: 2, Price: 10}, 0, kind(5, s(13, 1, 1), s(5, 2, 1), s(6, 10, 1), s(21, 2, 3), s(22, 120, 120), s(23, 0, 0)), func(b *api.Book) {
		b.Holders[0].Cash, b.Stakes, b.Opens[1].Left = 120, nil, 1
	})
}

// P17.1: of Cancel and Snap.
func TestCancelAndSnap(t *testing.T) {
	refuses(t, sample(), api.Event{Kind: api.Cancel, Ord: 9, Acc: 1, Qty: 1}, api.NoOrder, kind(6, s(13, 0, 1)))
	accepts(t, api.Event{Kind: api.Cancel, Ord: 7, Acc: 2, Qty: -1}, 0, kind(6, s(13, 1, 1)), func(b *api.Book) { b.Opens = b.Opens[1:] })
	accepts(t, api.Event{Kind: api.Snap, Acc: 1, Ord: 7, Qty: -1, Side: 7, Price: -1}, 0, kind(7), func(*api.Book) {})
}

// wide is a book at the ends: account 1 has a stake and an open order of these, at the price 1.
func wide(cash, stake int64, side int, left, price int64) api.Book {
	b := book.SetHolder(api.Book{}, api.Holder{Id: 1, Cash: cash, MaxPos: most, MaxOrder: most})
	b = book.SetRate(b, api.Rate{Sym: 3, Price: 1})
	b = book.SetStake(b, api.Stake{Acc: 1, Sym: 3, Qty: stake})
	return book.SetOpen(b, api.Open{Id: 7, Acc: 1, Sym: 3, Side: side, Left: left, Price: price})
}

// P17.1: sides that just fit, and that just don't, of Order.
func TestOrderAtTheEnds(t *testing.T) {
	ahead := func(e api.Event, opens int64, l ...api.Step) []api.Step {
		return append(kind(4, s(3, int64(e.Side), 0), s(4, int64(e.Side), 1), s(5, e.Qty, 1), s(6, e.Price, 1), s(10, 1, 1), s(12, 0, 0), s(14, 1, 1), s(16, opens, 63)), l...)
	}
	order := func(side int, qty, price int64) api.Event {
		return api.Event{Kind: api.Order, Acc: 1, Ord: 9, Sym: 3, Side: side, Qty: qty, Price: price}
	}
	e := order(0, 1<<32, 1<<31)
	refuses(t, wide(0, 0, 0, 0, 1), e, api.Overflow, ahead(e, 0, over(18)))
	e = order(0, most, 1)
	refuses(t, wide(0, 0, 0, 1, 1), e, api.Overflow, ahead(e, 1, s(18, most, most), over(19)))
	e = order(0, most-1, 1)
	refuses(t, wide(0, 0, 0, 1, 1), e, api.NoMargin, ahead(e, 1, s(18, most-1, most), s(19, most, most), s(20, 1<<62, 0)))
	e = order(1, 1, 1)
	refuses(t, wide(0, least, 0, 0, 1), e, api.Overflow, ahead(e, 0, s(18, 1, most), over(19)))
	// The need doesn't fit, the equity does.
	e = order(0, 1, 1)
	refuses(t, wide(5, 0, 1, most, 2), e, api.Overflow, ahead(e, 1, s(18, 1, most), s(19, 1, most), over(20)))
	refuses(t, wide(1<<62, 0, 1, most, 1), order(0, 1, 2), api.NoMargin, ahead(order(0, 1, 2), 1, s(18, 2, most), s(19, 1, most), s(20, 1<<62+1, 1<<62)))
	// The equity doesn't fit, the need does.
	refuses(t, wide(most, 1, 1, 1, 1), e, api.Overflow, ahead(e, 1, s(18, 1, most), s(19, 2, most), over(20)))
	behind := answers(t, wide(most-1, 1, 1, 1, 1), e, api.Verdict{Need: 2}, ahead(e, 1, s(18, 1, most), s(19, 2, most), s(20, 2, most)))
	if _, there := book.Open(behind, 9); !there {
		t.Error(behind)
	}
}

// P17.1: sides that just fit, and that just don't, of Fill.
func TestFillAtTheEnds(t *testing.T) {
	fill := func(qty, price int64) api.Event { return api.Event{Kind: api.Fill, Ord: 7, Qty: qty, Price: price} }
	ahead := func(e api.Event, left int64, l ...api.Step) []api.Step {
		return append(kind(5, s(13, 1, 1), s(5, e.Qty, 1), s(6, e.Price, 1), s(21, e.Qty, left)), l...)
	}
	e := fill(2, 1<<62)
	refuses(t, wide(-1, 0, 0, 2, 1), e, api.Overflow, ahead(e, 2, over(22)))
	behind := answers(t, wide(0, 0, 0, 2, 1), e, api.Verdict{}, ahead(e, 2, s(22, least, least), s(23, 2, 2)))
	if h, _ := book.Holder(behind, 1); h != (api.Holder{Id: 1, Cash: least, MaxPos: most, MaxOrder: most}) {
		t.Error(h)
	}
	refuses(t, wide(0, 0, 1, 2, 1), e, api.Overflow, ahead(e, 2, over(22)))
	answers(t, wide(-1, 0, 1, 2, 1), e, api.Verdict{}, ahead(e, 2, s(22, most, most), s(23, -2, -2)))
	e = fill(1, 1)
	refuses(t, wide(0, most, 0, 1, 1), e, api.Overflow, ahead(e, 1, s(22, -1, -1), over(23)))
	answers(t, wide(0, most-1, 0, 1, 1), e, api.Verdict{}, ahead(e, 1, s(22, -1, -1), s(23, most, most)))
	refuses(t, wide(0, least, 1, 1, 1), e, api.Overflow, ahead(e, 1, s(22, 1, 1), over(23)))
	answers(t, wide(0, least+1, 1, 1, 1), e, api.Verdict{}, ahead(e, 1, s(22, 1, 1), s(23, least, least)))
	// Neither fits: the cash is looked at first.
	refuses(t, wide(least, most, 0, 1, 1), e, api.Overflow, ahead(e, 1, over(22)))
}

// P17.1: lists that have room for one thing more, and lists that are full.
func TestRoom(t *testing.T) {
	b := sample()
	for id := int64(100); len(b.Holders) < 31; id++ {
		b.Holders = append(b.Holders, api.Holder{Id: id})
	}
	for sym := int64(100); len(b.Rates) < 31; sym++ {
		b.Rates = append(b.Rates, api.Rate{Sym: sym, Price: 1})
	}
	for id := int64(100); len(b.Opens) < 63; id++ {
		b.Opens = append(b.Opens, api.Open{Id: id, Acc: 1, Sym: 4, Side: 1, Left: 1, Price: 1})
	}
	order := func(ord int64) api.Event {
		return api.Event{Kind: api.Order, Acc: 2, Ord: ord, Sym: 3, Qty: 1, Price: 1}
	}
	ahead := func(opens int64) []api.Step {
		return kind(4, s(3, 0, 0), s(4, 0, 1), s(5, 1, 1), s(6, 1, 1), s(10, 1, 1), s(12, 0, 0), s(14, 1, 1), s(16, opens, 63))
	}
	b = answers(t, b, api.Event{Kind: api.Account, Acc: 50}, api.Verdict{}, kind(1, s(7, 0, 0), s(11, 0, 0), s(15, 31, 31)))
	b = answers(t, b, api.Event{Kind: api.Quote, Sym: 50, Price: 1}, api.Verdict{}, kind(3, s(6, 1, 1), s(17, 31, 31)))
	b = answers(t, b, order(50), api.Verdict{Need: 1}, append(ahead(63), s(18, 1, most), s(19, 1, most), s(20, 1, 9)))
	if len(b.Holders) != 32 || len(b.Rates) != 32 || len(b.Opens) != 64 {
		t.Fatal(b)
	}
	refuses(t, b, api.Event{Kind: api.Account, Acc: 51}, api.Full, kind(1, s(7, 0, 0), s(11, 0, 0), s(15, 32, 31)))
	refuses(t, b, api.Event{Kind: api.Quote, Sym: 51, Price: 1}, api.Full, kind(3, s(6, 1, 1), s(17, 32, 31)))
	refuses(t, b, order(51), api.Full, ahead(64))
	// What is there already is told ahead of that there is no room, or needs none.
	refuses(t, b, api.Event{Kind: api.Account, Acc: 50}, api.DupAccount, kind(1, s(7, 0, 0), s(11, 1, 0)))
	answers(t, b, api.Event{Kind: api.Quote, Sym: 50, Price: 2}, api.Verdict{}, kind(3, s(6, 2, 1)))
	dup := ahead(64)[:8]
	dup[7].Left = 1
	refuses(t, b, order(50), api.DupOrder, dup)
	b = answers(t, b, api.Event{Kind: api.Cancel, Ord: 60}, api.Verdict{Code: api.NoOrder}, kind(6, s(13, 0, 1)))
	b = answers(t, b, api.Event{Kind: api.Cancel, Ord: 150}, api.Verdict{}, kind(6, s(13, 1, 1)))
	// Of both orders of account 2 one is needed, half of 2.
	answers(t, b, order(51), api.Verdict{Need: 1}, append(ahead(63), s(18, 1, most), s(19, 2, most), s(20, 1, 9)))
}

// P17.1: the rates at the ends, and how the need is rounded.
func TestRates(t *testing.T) {
	e := api.Event{Kind: api.Order, Acc: 2, Ord: 9, Sym: 4, Qty: 3, Price: 1}
	for rate, need := range map[int]int64{0: 0, 1: 1, 33: 1, 34: 2, 50: 2, 66: 2, 67: 3, 100: 3, 101: 4, 300: 9} {
		if _, v, _, fault := stepped(t, sample(), e, rate); v != (api.Verdict{Need: need}) || fault != api.OK {
			t.Errorf("rate %d: %v %d", rate, v, fault)
		}
	}
	for _, rate := range []int{301, 999, 1000} {
		if _, v, _, fault := stepped(t, sample(), e, rate); v != (api.Verdict{Code: api.NoMargin}) || fault != api.OK {
			t.Errorf("rate %d: %v %d", rate, v, fault)
		}
	}
}
