package margin_test

import (
	"slices"
	"testing"

	"engross/api"
	"engross/book"
	"engross/margin"
)

// P15.2: what is behind fills of the open orders of books of all kinds, and of any others.
func TestAfter(t *testing.T) {
	below := chance(11)
	fit, of := 0, 0
	for _, b := range books() {
		orders := slices.Clone(b.Opens)
		for range 20 {
			list := append(edges(), accounts(b)...)
			any := func() int64 { return list[below(len(list))] }
			acc, sym := accounts(b), symbols(b)
			orders = append(orders, api.Open{Id: any(), Acc: acc[below(len(acc))], Sym: sym[below(len(sym))], Side: below(2), Left: any(), Price: any()})
		}
		for i, o := range orders {
			list := [][]int64{edges(), small()}[i%2]
			qty, price := list[below(len(list))], list[below(len(list))]
			of += 2
			fit += filled(t, b, o, qty, price)
			o.Side = below(5) - 2
			filled(t, b, o, qty, price)
		}
	}
	enough(t, fit, of)
}

// P15.2: every edge times every edge, of both sides, from cash and a stake at the ends.
func TestAfterOfAllEdges(t *testing.T) {
	list := []int64{least, least + 1, -1 << 32, -3, -1, 0, 1, 2, 1 << 31, 1 << 62, most - 1, most}
	for _, cash := range []int64{least, least + 1, -1, 0, 1, most - 1, most} {
		b := one(cash, 1, -cash)
		for _, qty := range list {
			for _, price := range list {
				for side := range 2 {
					filled(t, b, api.Open{Acc: 1, Sym: 2, Side: side}, qty, price)
				}
			}
		}
	}
}

// P15.2: written out, where cash, stake or both just fit, and where they just don't.
func TestAfterAtTheEnds(t *testing.T) {
	for _, x := range []struct {
		cash, stake       int64
		side              int
		qty, price        int64
		left, much        int64
		leftFits, muchFit bool
	}{
		{10, 3, 0, 2, 4, 2, 5, true, true}, {10, 3, 1, 2, 4, 18, 1, true, true}, {10, 3, 0, -2, 4, 18, 1, true, true}, {10, 3, 1, -2, 4, 2, 5, true, true}, {10, 3, 0, 0, most, 10, 3, true, true},
		{10, 3, 0, 2, 9, -8, 5, true, true}, {10, 3, 1, 5, 1, 15, -2, true, true}, {10, 3, 1, 3, 1, 13, 0, true, true},
		{least, 3, 0, 1, 1, 0, 4, false, true}, {least, 3, 0, 1, 0, least, 4, true, true}, {most, 3, 1, 1, 1, 0, 2, false, true}, {most - 1, 3, 1, 1, 1, most, 2, true, true},
		{0, most, 0, 1, 1, -1, 0, true, false}, {0, most, 0, 0, 1, 0, most, true, true}, {0, least, 1, 1, 1, 1, 0, true, false}, {0, least + 1, 1, 1, 1, 1, least, true, true},
		{0, 5, 0, least, 1, 0, least + 5, false, true}, {-1, 5, 0, least, 1, most, least + 5, true, true}, {0, 5, 1, least, 1, least, 0, true, false}, {0, -1, 1, least, 1, least, most, true, true},
		{0, 5, 0, 1, least, 0, 6, false, true}, {-1, 5, 0, 1, least, most, 6, true, true}, {0, 5, 1, 1, least, least, 4, true, true}, {-1, 5, 1, 1, least, 0, 4, false, true},
		{0, 5, 0, least, least, 0, least + 5, false, true}, {0, 5, 1, most, most, 0, 5 - most, false, true}, {least, most, 0, most, most, 0, 0, false, false}, {most, least, 1, most, most, 0, 0, false, false},
	} {
		c, s, p, q := margin.After(one(x.cash, 7, x.stake), api.Open{Id: 9, Acc: 1, Sym: 2, Side: x.side, Left: 1, Price: 1000}, x.qty, x.price)
		told(t, "cash "+brief(x), c, p, x.left, x.leftFits)
		told(t, "stake "+brief(x), s, q, x.much, x.muchFit)
	}
}

// P15.2: no side but 0 and 1.
func TestAfterOfOtherSides(t *testing.T) {
	for _, side := range []int{2, -1, 3, most, least, 1 << 32, 1<<32 + 1} {
		c, s, p, q := margin.After(one(10, 5, 3), api.Open{Id: 4, Acc: 1, Sym: 2, Side: side, Left: 2, Price: 4}, 1, 1)
		told(t, "cash", c, p, 0, false)
		told(t, "stake", s, q, 0, false)
	}
}

// P15.3: an account that isn't there has the equity 0, and needs what its order's worth says; its order's fill begins with nothing.
func TestAccountsThatAreNotThere(t *testing.T) {
	for _, b := range append(books(), one(least, most, least)) {
		for _, acc := range []int64{17, -18, 30000} {
			if _, there := book.Holder(b, acc); there {
				t.Fatalf("%d is there in %s", acc, brief(b))
			}
			n, ok := margin.Equity(b, acc)
			told(t, "Equity", n, ok, 0, true)
			n, ok = margin.Need(b, acc, 7, 3, 50)
			told(t, "Need", n, ok, 11, true)
			n, ok = margin.Need(b, acc, -7, 3, 50)
			told(t, "Need", n, ok, 0, false)
			for side, stake := range []int64{-7, 7} {
				n, ok = margin.Reach(b, acc, 2, side, 7)
				told(t, "Reach", n, ok, 7, true)
				c, s, p, q := margin.After(b, api.Open{Acc: acc, Sym: 2, Side: side}, -7, 3)
				told(t, "cash", c, p, -3*stake, true)
				told(t, "stake", s, q, stake, true)
			}
		}
	}
}

// wrongs gives books that may not be, each by one rule, though all that is asked of account 1 and symbol 2 is found in them.
func wrongs() []api.Book {
	var list []api.Book
	for _, wrong := range []func(b *api.Book){
		func(b *api.Book) { b.Count = -1 },
		func(b *api.Book) { b.Count = 1<<40 + 1 },
		func(b *api.Book) { b.Holders = append(b.Holders, api.Holder{Id: 1}) },
		func(b *api.Book) { b.Holders = append(b.Holders, api.Holder{Id: 3, MaxPos: -1}) },
		func(b *api.Book) { b.Holders = append(b.Holders, api.Holder{Id: 3, MaxOrder: -1}) },
		func(b *api.Book) { b.Rates = append(b.Rates, api.Rate{Sym: 1, Price: 1}) },
		func(b *api.Book) { b.Rates = append(b.Rates, api.Rate{Sym: 3}) },
		func(b *api.Book) { b.Stakes = append(b.Stakes, api.Stake{Acc: 1, Sym: 3, Qty: 1}) },
		func(b *api.Book) { b.Stakes = append(b.Stakes, api.Stake{Acc: 2, Sym: 2, Qty: 1}) },
		func(b *api.Book) { b.Stakes[0].Qty = 0 },
		func(b *api.Book) { b.Opens[0].Left = 0 },
		func(b *api.Book) { b.Opens[0].Price = 0 },
		func(b *api.Book) { b.Opens[0].Side = 2 },
		func(b *api.Book) { b.Opens[0].Acc = 2 },
		func(b *api.Book) { b.Opens = append(b.Opens, b.Opens[0]) },
		func(b *api.Book) {
			for id := range int64(api.MaxAccounts) {
				b.Holders = append(b.Holders, api.Holder{Id: 10 + id})
			}
		},
		func(b *api.Book) {
			for id := range int64(api.MaxOrders) {
				b.Opens = append(b.Opens, api.Open{Id: 10 + id, Acc: 1, Sym: 2, Left: 1, Price: 1})
			}
		},
	} {
		b := book.SetOpen(one(10, 5, 3), api.Open{Id: 4, Acc: 1, Sym: 2, Left: 2, Price: 4})
		wrong(&b)
		list = append(list, b)
	}
	return list
}

// P15.1, P15.2: of a book that may not be: 0, false.
func TestBooksThatMayNotBe(t *testing.T) {
	for _, b := range wrongs() {
		if book.May(b) {
			t.Errorf("may be: %s", brief(b))
		}
		for _, acc := range []int64{1, 3, 99} {
			n, ok := margin.Equity(b, acc)
			told(t, "Equity", n, ok, 0, false)
			n, ok = margin.Need(b, acc, 1, 1, 100)
			told(t, "Need", n, ok, 0, false)
			for side := range 2 {
				n, ok = margin.Reach(b, acc, 2, side, 1)
				told(t, "Reach", n, ok, 0, false)
				c, s, p, q := margin.After(b, api.Open{Id: 4, Acc: acc, Sym: 2, Side: side, Left: 2, Price: 4}, 1, 1)
				told(t, "cash", c, p, 0, false)
				told(t, "stake", s, q, 0, false)
			}
		}
	}
}

// spare gives a list in memory of its own, with other things behind it.
func spare[T any](l []T, other T) []T {
	room := append(slices.Clone(l), other, other, other)
	return room[:len(l)]
}

// roomy gives a book like b whose lists have spare room, in which other things of account 1 lie.
func roomy(b api.Book) api.Book {
	return api.Book{
		Holders: spare(b.Holders, api.Holder{Id: 1, Cash: 77}),
		Stakes:  spare(b.Stakes, api.Stake{Acc: 1, Sym: 2, Qty: 77}),
		Opens:   spare(b.Opens, api.Open{Acc: 1, Sym: 2, Left: 77, Price: 77}),
		Rates:   spare(b.Rates, api.Rate{Sym: 2, Price: 77}),
		Count:   b.Count,
	}
}

// wholes gives a book whose lists have their spare room, too.
func wholes(b api.Book) api.Book {
	return api.Book{
		Holders: b.Holders[:cap(b.Holders)],
		Stakes:  b.Stakes[:cap(b.Stakes)],
		Opens:   b.Opens[:cap(b.Opens)],
		Rates:   b.Rates[:cap(b.Rates)],
		Count:   b.Count,
	}
}

// Rules 5 and 6: what is handed in stays as it was, its spare room too, and asked again a call answers the same.
func TestBooksAreLeftAsTheyWere(t *testing.T) {
	for _, b := range append(books()[:40], wrongs()...) {
		in := roomy(b)
		for range 2 {
			for _, acc := range accounts(b) {
				equal(t, in, acc)
				needed(t, in, acc, 3, 4, 10)
				reached(t, in, acc, 2, 0, 5)
				reached(t, in, acc, 2, 1, 5)
				filled(t, in, api.Open{Acc: acc, Sym: 2, Side: 1}, 3, 4)
			}
		}
		if !book.Same(wholes(in), wholes(roomy(b))) {
			t.Errorf("changed: %s", brief(b))
		}
	}
}
