package book_test

import (
	"slices"
	"testing"

	"engross/api"
	"engross/book"
)

// becomes fails where another book comes of b than the words say, and gives what comes.
func becomes(t *testing.T, b api.Book, s setting) api.Book {
	t.Helper()
	had, want := twin(b), s.want(b)
	got := s.call(b)
	if !alike(got, want) {
		t.Fatalf("of %s came %s, not %s", brief(had), brief(got), brief(want))
	}
	if !alike(b, had) {
		t.Fatalf("%s was changed to %s", brief(had), brief(b))
	}
	return got
}

// settings are such of each kind, with this key.
func settings(a, c int64, n int64) []setting {
	return []setting{
		holderSet(api.Holder{Id: a, Cash: n, MaxPos: 7 * n, MaxOrder: c}),
		stakeSet(api.Stake{Acc: a, Sym: c, Qty: n}),
		openSet(api.Open{Id: a, Acc: c, Sym: n, Side: int(c), Left: n, Price: c}),
		rateSet(api.Rate{Sym: a, Price: n}),
	}
}

// P12.2: a thing that is put in its place, ahead of all, behind all, between two, or instead of one; or that is taken out, if there is one.
func TestPutInItsPlace(t *testing.T) {
	for _, b := range append(books()[:20], sample()) {
		all := keysOf(b)
		for i, a := range all {
			for _, c := range []int64{all[0], all[i], all[len(all)/2], all[len(all)-1]} {
				for _, n := range []int64{0, 1, -1, least, most} {
					for _, s := range settings(a, c, n) {
						becomes(t, b, s)
					}
				}
			}
		}
		for _, s := range b.Stakes[:min(len(b.Stakes), 99)] {
			for _, n := range []int64{0, 1, -1, s.Qty, -s.Qty} {
				becomes(t, b, stakeSet(api.Stake{Acc: s.Acc, Sym: s.Sym, Qty: n}))
			}
		}
	}
}

// P12.2: into a book with nothing in it, and the last thing taken out.
func TestTheFirstAndTheLastThing(t *testing.T) {
	for _, n := range []int64{0, 1, -1, most} {
		for _, s := range settings(5, 6, n) {
			becomes(t, api.Book{}, s)
			becomes(t, api.Book{Count: 9, Holders: make([]api.Holder, 0, 4), Stakes: make([]api.Stake, 0, 4), Opens: make([]api.Open, 0, 4), Rates: make([]api.Rate, 0, 4)}, s)
		}
	}
	b := becomes(t, api.Book{}, stakeSet(api.Stake{Acc: 1, Sym: 2, Qty: 3}))
	b = becomes(t, b, openSet(api.Open{Id: 1, Left: 3}))
	b = becomes(t, b, stakeSet(api.Stake{Acc: 1, Sym: 2}))
	b = becomes(t, b, openSet(api.Open{Id: 1, Acc: 7, Sym: 8, Side: 1, Price: 9}))
	if !book.Same(b, api.Book{}) {
		t.Fatalf("what was taken out is there: %v", b)
	}
}

// P12.2: only a Qty of 0 takes a stake out, only a Left of 0 an open order, and nothing a holder or a rate.
func TestWhatIsTakenOut(t *testing.T) {
	b := sample()
	for _, x := range []struct {
		s    setting
		want [4]int
	}{
		{holderSet(api.Holder{Id: 2}), [4]int{3, 4, 3, 3}},
		{rateSet(api.Rate{Sym: 3}), [4]int{3, 4, 3, 3}},
		{stakeSet(api.Stake{Acc: 2, Sym: 3}), [4]int{3, 3, 3, 3}},
		{stakeSet(api.Stake{Acc: 3, Sym: 2}), [4]int{3, 4, 3, 3}},
		{stakeSet(api.Stake{Acc: 2, Sym: 3, Qty: -1}), [4]int{3, 4, 3, 3}},
		{stakeSet(api.Stake{Acc: 2, Sym: 3, Qty: 1 << 32}), [4]int{3, 4, 3, 3}},
		{openSet(api.Open{Id: 7}), [4]int{3, 4, 2, 3}},
		{openSet(api.Open{Id: 8}), [4]int{3, 4, 3, 3}},
		{openSet(api.Open{Id: 7, Acc: 6, Sym: 3, Price: 9}), [4]int{3, 4, 2, 3}},
		{openSet(api.Open{Id: 7, Left: -1}), [4]int{3, 4, 3, 3}},
		{openSet(api.Open{Id: 7, Left: 1 << 32}), [4]int{3, 4, 3, 3}},
	} {
		c := becomes(t, b, x.s)
		if got := [4]int{len(c.Holders), len(c.Stakes), len(c.Opens), len(c.Rates)}; got != x.want {
			t.Fatalf("%d things, not %d", got, x.want)
		}
	}
}

// P12.2: more things than may be, and ones that may not be, are put all the same.
func TestPutMoreThanMayBe(t *testing.T) {
	b := grown(32, 32, 64, 100, chance(4))
	for i := range int64(40) {
		for _, s := range settings(1000+7*i, 33*i, -1) {
			b = becomes(t, b, s)
		}
	}
	if len(b.Holders) != 72 || len(b.Stakes) != 1064 || len(b.Opens) != 104 || len(b.Rates) != 72 || book.May(b) {
		t.Fatalf("%d, %d, %d, %d things", len(b.Holders), len(b.Stakes), len(b.Opens), len(b.Rates))
	}
}

// P12.3: what was set is found, and all else is as it was.
func TestWhatWasSetIsFound(t *testing.T) {
	below := chance(21)
	var b api.Book
	holders, opens, rates := map[int64]api.Holder{}, map[int64]api.Open{}, map[int64]int64{}
	stakes := map[[2]int64]int64{}
	all := []int64{least, -1 << 32, -1, 0, 1, 2, 1 << 32, most}
	for i := range 4000 {
		a, c, n := all[below(8)], all[below(8)], int64(below(3)-1)
		switch below(4) {
		case 0:
			holders[a] = api.Holder{Id: a, Cash: c, MaxPos: n, MaxOrder: int64(i)}
			b = book.SetHolder(b, holders[a])
		case 1:
			stakes[[2]int64{a, c}] = n
			b = book.SetStake(b, api.Stake{Acc: a, Sym: c, Qty: n})
		case 2:
			o := api.Open{Id: a, Acc: c, Sym: int64(i), Side: below(2), Left: n, Price: c}
			if opens[a] = o; n == 0 {
				delete(opens, a)
			}
			b = book.SetOpen(b, o)
		case 3:
			rates[a] = n
			b = book.SetRate(b, api.Rate{Sym: a, Price: n})
		}
		for _, key := range all {
			h, account := holders[key]
			if got, there := book.Holder(b, key); got != h || there != account {
				t.Fatalf("Holder %d behind %d things: %v, %v, not %v, %v", key, i, got, there, h, account)
			}
			o, order := opens[key]
			if got, there := book.Open(b, key); got != o || there != order {
				t.Fatalf("Open %d behind %d things: %v, %v, not %v, %v", key, i, got, there, o, order)
			}
			p, symbol := rates[key]
			if got, there := book.Rate(b, key); got != p || there != symbol {
				t.Fatalf("Rate %d behind %d things: %d, %v, not %d, %v", key, i, got, there, p, symbol)
			}
			if got := book.Stake(b, a, key); got != stakes[[2]int64{a, key}] {
				t.Fatalf("Stake %d, %d behind %d things: %d", a, key, i, got)
			}
		}
	}
	if len(b.Holders) != 8 || len(b.Rates) != 8 || len(b.Opens) != len(opens) {
		t.Fatalf("%d, %d, %d things", len(b.Holders), len(b.Rates), len(b.Opens))
	}
}

// P12.3: things that are set in whatever order make the same book.
func TestTheOrderOfSetting(t *testing.T) {
	below := chance(8)
	for _, want := range append(books()[:30], sample()) {
		var l []func(b api.Book) api.Book
		for _, h := range want.Holders {
			l = append(l, holderSet(h).call)
		}
		for _, s := range want.Stakes {
			l = append(l, stakeSet(s).call)
		}
		for _, o := range want.Opens {
			l = append(l, openSet(o).call)
		}
		for _, r := range want.Rates {
			l = append(l, rateSet(r).call)
		}
		b := api.Book{Count: want.Count}
		for len(l) > 0 {
			i := below(len(l))
			b = l[i](b)
			l = slices.Delete(l, i, i+1)
		}
		if !book.Same(b, want) || !book.May(b) {
			t.Fatalf("%s, not %s", brief(b), brief(want))
		}
	}
}
