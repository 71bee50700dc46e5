package gate_test

import (
	"slices"
	"testing"

	"engross/api"
	"engross/book"
	"engross/gate"
)

// keyOf gives mostly the key of one of the things, if there are any, else one that may not be there.
func keyOf[T any](list []T, id func(thing T) int64, below func(int) int) int64 {
	if len(list) == 0 || below(5) == 0 {
		return oneOf([]int64{17, 18, 0, least, most}, below)
	}
	return id(oneOf(list, below))
}

// coming gives an event that may well come to the book, with numbers like these.
func coming(b api.Book, of []int64, below func(int) int) api.Event {
	e := api.Event{Kind: 1 + below(7), Side: below(2), Qty: oneOf(of, below), Price: oneOf(of, below)}
	e.Acc = keyOf(b.Holders, func(h api.Holder) int64 { return h.Id }, below)
	e.Ord = keyOf(b.Opens, func(o api.Open) int64 { return o.Id }, below)
	e.Sym = keyOf(b.Rates, func(r api.Rate) int64 { return r.Sym }, below)
	if below(3) > 0 {
		// Also where most numbers are too great some are in the bounds.
		e.Qty = int64(1 + below(5))
	}
	if below(3) > 0 {
		e.Price = int64(1 + below(5))
	}
	if below(20) == 0 {
		e.Side = oneOf([]int{-1, 2, least, most, 1 << 32}, below)
	}
	if below(20) == 0 {
		e.Kind = oneOf([]int{0, 8, -1, 9, least, most, 1<<32 + 4}, below)
	}
	return e
}

// grown gives a book that may be, with so many holders, rates and open orders, and a stake of each of some pairs, of numbers like these.
func grown(holders, rates, opens, inHundred int, of []int64, below func(int) int) api.Book {
	b := api.Book{Count: oneOf([]int64{0, 1, 300, 1 << 32, 1<<40 - 1}, below)}
	great := func(floor int64) int64 { return max(floor, oneOf(of, below)) }
	limit := func() int64 { return oneOf([]int64{great(0), most, most}, below) }
	for id := range int64(holders) {
		b.Holders = append(b.Holders, api.Holder{Id: id*3 - 9, Cash: oneOf(of, below), MaxPos: limit(), MaxOrder: limit()})
	}
	for sym := range int64(rates) {
		b.Rates = append(b.Rates, api.Rate{Sym: sym*7 - 50, Price: great(1)})
	}
	for _, h := range b.Holders {
		for _, r := range b.Rates {
			if qty := oneOf(of, below); below(100) < inHundred && qty != 0 {
				b.Stakes = append(b.Stakes, api.Stake{Acc: h.Id, Sym: r.Sym, Qty: qty})
			}
		}
	}
	for id := range int64(opens) {
		b.Opens = append(b.Opens, api.Open{Id: id*5 - 30, Acc: oneOf(b.Holders, below).Id, Sym: oneOf(b.Rates, below).Sym, Side: below(2), Left: great(1), Price: great(1)})
	}
	return b
}

// P17.1, P17.2, P17.3: events of all kinds that come to books of all kinds.
func TestEventsAtBooks(t *testing.T) {
	below := chance(17)
	var counts seen
	for i := range 2500 {
		of := small()
		if i%2 == 0 {
			of = edges()
		}
		b := grown(1+below(4), 1+below(3), below(8), below(101), of, below)
		if i%25 == 0 {
			b = grown(32, 32, 64, 100, of, below)
		}
		if !book.May(b) {
			t.Fatalf("may not be: %s", brief(b))
		}
		for range 25 {
			e := coming(b, of, below)
			rate := oneOf([]int{0, 1, 10, 50, 99, 100, 101, 1000}, below)
			_, v, steps, _ := stepped(t, b, e, rate)
			counts.note(e.Kind, v, steps)
		}
	}
	counts.enough(t, 5, 18, 19, 20, 22, 23)
}

// growing gives an event that well may make a list longer.
func growing(below func(int) int) api.Event {
	e := api.Event{Kind: oneOf([]int{1, 1, 3, 3, 4, 4, 4, 4, 4, 4}, below), Acc: int64(below(40)), Ord: int64(below(400)), Sym: int64(below(40)), Side: below(2), Qty: int64(1 + below(4)), Price: int64(1 + below(4))}
	if e.Kind == api.Account && below(4) > 0 {
		e.Qty = 1 << 40
	}
	return e
}

// P17.1, P17.2, P17.3: events that come one behind the other, from a zero book on.
func TestEventsInRows(t *testing.T) {
	below := chance(18)
	var counts seen
	for i := range 60 {
		of := small()
		if i%3 == 0 {
			of = edges()
		}
		b, rate := api.Book{}, oneOf([]int{0, 10, 50, 100, 1000}, below)
		// The lists of every other row grow till they are full.
		grow := 40 + 410*(i%2)
		for n := range 500 {
			e := coming(b, of, below)
			if n < grow && below(8) > 0 {
				e = growing(below)
			}
			behind, v, steps, fault := stepped(t, b, e, rate)
			if fault != api.OK {
				t.Fatal(e, fault)
			}
			counts.note(e.Kind, v, steps)
			b = behind
		}
	}
	counts.enough(t, 5, 18)
}

// P17.1: orders of which any of the rules hold, and any don't: the first that doesn't is told.
func TestOrdersThatBreakAnyRules(t *testing.T) {
	tight := sample()
	tight.Holders[1] = api.Holder{Id: 2, Cash: 3, MaxPos: 5, MaxOrder: 20}
	packed := book.Copy(tight)
	for id := int64(100); len(packed.Opens) < 64; id++ {
		packed.Opens = append(packed.Opens, api.Open{Id: id, Acc: 1, Sym: 4, Left: 1, Price: 1})
	}
	for _, b := range []api.Book{{}, tight, packed} {
		for _, acc := range []int64{1, 2, 3} {
			for _, ord := range []int64{7, 9} {
				for _, sym := range []int64{3, 4, 5} {
					for _, side := range []int{-1, 0, 1, 2} {
						for _, qty := range []int64{-1, 0, 1, 4, 5, 6, 10, most} {
							for _, price := range []int64{-1, 0, 1, 2, 4, 6, most} {
								for kind := 3; kind <= 5; kind++ {
									stepped(t, b, api.Event{Kind: kind, Acc: acc, Ord: ord, Sym: sym, Side: side, Qty: qty, Price: price}, 20)
								}
							}
						}
					}
				}
			}
		}
	}
}

// T1, P17.1: the examples of the whole that the gate alone decides.
func TestExamplesOfTheWhole(t *testing.T) {
	for i, x := range []struct {
		events   []api.Event
		verdicts []api.Verdict
	}{
		{[]api.Event{{Kind: 1, Acc: 1, Qty: 100}, {Kind: 3, Sym: 3, Price: 5}, {Kind: 4, Acc: 1, Ord: 7, Sym: 3, Qty: 2, Price: 5}, {Kind: 4, Acc: 1, Ord: 7, Sym: 3, Qty: 1, Price: 5}, {Kind: 5, Ord: 7, Qty: 2, Price: 6}},
			[]api.Verdict{{}, {}, {Need: 2}, {Code: api.DupOrder}, {}}},
		{[]api.Event{{Kind: 1, Acc: 1, Qty: -1}, {Kind: 1, Acc: 1, Qty: most}, {Kind: 3, Sym: 1, Price: 2}, {Kind: 4, Acc: 1, Ord: 1, Sym: 1, Qty: most, Price: 2}},
			[]api.Verdict{{Code: api.BadValue}, {}, {}, {Code: api.Overflow}}},
		{[]api.Event{{Kind: 6, Ord: 5}, {Kind: 7}, {Kind: 7}}, []api.Verdict{{Code: api.NoOrder}, {}, {}}},
		{[]api.Event{{Kind: 1, Acc: 1, Qty: 10}, {Kind: 3, Sym: 2, Price: 5}, {Kind: 4, Acc: 1, Ord: 1, Sym: 2, Side: 1, Qty: 3, Price: 4}}, []api.Verdict{{}, {}, {Need: 3}}},
		{[]api.Event{{Kind: 2, Acc: 1, Qty: 5, Price: 5}, {Kind: 1, Acc: 1, Qty: 5}, {Kind: 2, Acc: 1, Qty: 5, Price: 5}}, []api.Verdict{{Code: api.NoAccount}, {}, {}}},
		{[]api.Event{{Kind: 3, Sym: 1}, {Kind: 3, Sym: 1, Price: 1}}, []api.Verdict{{Code: api.BadValue}, {}}},
	} {
		var b api.Book
		var verdicts []api.Verdict
		for _, e := range x.events {
			behind, v, _, fault := gate.Step(b, e, 20)
			if fault != api.OK {
				t.Fatal(e, fault)
			}
			b, verdicts = behind, append(verdicts, v)
		}
		if !slices.Equal(verdicts, x.verdicts) {
			t.Errorf("row %d: %v, not %v", i, verdicts, x.verdicts)
		}
	}
}

// The chapter's example: of a zero book.
func TestExampleOfTheChapter(t *testing.T) {
	_, v, steps, fault := gate.Step(api.Book{}, api.Event{Kind: api.Order, Qty: 1, Price: 1}, 50)
	want := kind(4, s(3, 0, 0), s(4, 0, 1), s(5, 1, 1), s(6, 1, 1), s(10, 0, 1))
	if v != (api.Verdict{Code: api.NoAccount}) || !slices.Equal(steps, want) || fault != api.OK {
		t.Error(v, steps, fault)
	}
}
