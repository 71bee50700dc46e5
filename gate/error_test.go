package gate_test

import (
	"testing"

	"engross/api"
	"engross/book"
	"engross/gate"
)

// events gives one of each kind, and of no kind.
func events() []api.Event {
	return []api.Event{
		{}, {Kind: 8}, {Kind: least}, {Kind: api.Account, Acc: 9, Qty: 1}, {Kind: api.Limit, Acc: 1}, {Kind: api.Quote, Sym: 3, Price: 2},
		{Kind: api.Order, Acc: 1, Ord: 9, Sym: 3, Qty: 1, Price: 1}, {Kind: api.Fill, Ord: 7, Qty: 1, Price: 1}, {Kind: api.Cancel, Ord: 7}, {Kind: api.Snap},
	}
}

// faults fails where Step and Explain don't answer just that error, of events of all kinds.
func faults(t *testing.T, b api.Book, rate int, want api.Errno) {
	t.Helper()
	for _, e := range events() {
		behind, v, steps, fault := gate.Step(b, e, rate)
		if !book.Same(behind, api.Book{}) || v != (api.Verdict{}) || len(steps) != 0 || fault != want {
			t.Errorf("Step of %v at %d in %s: %s %v %v %d, not %d", e, rate, brief(b), brief(behind), v, steps, fault, want)
		}
		if text, fault := gate.Explain(b, e, rate); text != "" || fault != want {
			t.Errorf("Explain of %v at %d in %s: %q %d, not %d", e, rate, brief(b), text, fault, want)
		}
	}
}

// wrongs gives books that may not be, each by one rule.
func wrongs() []api.Book {
	var list []api.Book
	for _, wrong := range []func(b *api.Book){
		func(b *api.Book) { b.Count = -1 },
		func(b *api.Book) { b.Count = 1<<40 + 1 },
		func(b *api.Book) { b.Count = least },
		func(b *api.Book) { b.Holders = append(b.Holders, api.Holder{Id: 1}) },
		func(b *api.Book) { b.Holders = append(b.Holders, api.Holder{Id: 2}) },
		func(b *api.Book) { b.Holders[1].MaxPos = -1 },
		func(b *api.Book) { b.Holders[1].MaxOrder = -1 },
		func(b *api.Book) { b.Rates = append(b.Rates, api.Rate{Sym: 1, Price: 1}) },
		func(b *api.Book) { b.Rates[1].Price = 0 },
		func(b *api.Book) { b.Stakes = append(b.Stakes, api.Stake{Acc: 1, Sym: 9, Qty: 1}) },
		func(b *api.Book) { b.Stakes = append(b.Stakes, api.Stake{Acc: 9, Sym: 3, Qty: 1}) },
		func(b *api.Book) { b.Stakes[0].Qty = 0 },
		func(b *api.Book) { b.Opens[1].Left = 0 },
		func(b *api.Book) { b.Opens[1].Price = 0 },
		func(b *api.Book) { b.Opens[1].Side = 2 },
		func(b *api.Book) { b.Opens[1].Acc = 9 },
		func(b *api.Book) { b.Opens[1].Sym = 9 },
		func(b *api.Book) { b.Opens = append(b.Opens, b.Opens[0]) },
		func(b *api.Book) {
			for id := range int64(31) {
				b.Holders = append(b.Holders, api.Holder{Id: 10 + id})
			}
		},
		func(b *api.Book) {
			for sym := range int64(31) {
				b.Rates = append(b.Rates, api.Rate{Sym: 10 + sym, Price: 1})
			}
		},
		func(b *api.Book) {
			for id := range int64(63) {
				b.Opens = append(b.Opens, api.Open{Id: 10 + id, Acc: 1, Sym: 3, Left: 1, Price: 1})
			}
		},
	} {
		b := sample()
		wrong(&b)
		list = append(list, b)
	}
	return list
}

// P17.1, P17.2: a book that may not be, and a rate that isn't from 0 to MaxRate: ErrArg.
func TestErrArg(t *testing.T) {
	for _, b := range wrongs() {
		faults(t, b, 50, api.ErrArg)
		faults(t, b, -1, api.ErrArg)
	}
	for _, rate := range []int{-1, 1001, -50, least, most, 1 << 32, 1<<32 + 50, -1 << 32} {
		faults(t, sample(), rate, api.ErrArg)
		faults(t, api.Book{}, rate, api.ErrArg)
	}
	for _, rate := range []int{0, 1, 999, 1000} {
		for _, e := range events() {
			stepped(t, sample(), e, rate)
			stepped(t, api.Book{}, e, rate)
		}
	}
}

// P17.1, P17.2: a Count of 2^40: ErrRange, whatever comes, but ErrArg ahead of it; one less is behind it yet.
func TestErrRange(t *testing.T) {
	for _, b := range []api.Book{{}, sample()} {
		b.Count = 1 << 40
		faults(t, b, 0, api.ErrRange)
		faults(t, b, 1000, api.ErrRange)
		faults(t, b, -1, api.ErrArg)
		faults(t, b, 1001, api.ErrArg)
		twice := book.Copy(b)
		twice.Holders = append(twice.Holders, api.Holder{Id: 9}, api.Holder{Id: 9})
		faults(t, twice, 50, api.ErrArg)
		b.Count--
		for _, e := range events() {
			if behind, _, _, fault := stepped(t, b, e, 50); behind.Count != 1<<40 || fault != api.OK {
				t.Errorf("behind %v: %s %d", e, brief(behind), fault)
			}
		}
	}
}
