package book_test

import (
	"slices"
	"testing"

	"engross/api"
	"engross/book"
)

// The examples of chapter 12.
func TestExamplesOfTheChapter(t *testing.T) {
	b := sample()
	if h, there := book.Holder(b, 3); there || h != (api.Holder{}) {
		t.Fatalf("a holder that isn't there: %v, %v", h, there)
	}
	c := book.SetStake(b, api.Stake{Acc: 2, Sym: 1})
	if n := book.Stake(c, 2, 1); n != 0 || len(c.Stakes) != 3 {
		t.Fatalf("a stake of none: %d, %v", n, c.Stakes)
	}
}

// likeness fails where Same doesn't tell just this of both, in either order.
func likeness(t *testing.T, a, b api.Book, want bool) {
	t.Helper()
	if book.Same(a, b) != want || book.Same(b, a) != want {
		t.Fatalf("Same isn't %v of %s and %s", want, brief(a), brief(b))
	}
}

// P12.1: books are alike if all their lists and Count are.
func TestSame(t *testing.T) {
	all := books()
	for i, a := range all {
		likeness(t, a, a, true)
		likeness(t, a, twin(a), true)
		for _, b := range all[:i] {
			likeness(t, a, b, alike(a, b))
		}
	}
	likeness(t, api.Book{}, api.Book{Holders: []api.Holder{}, Stakes: []api.Stake{}, Opens: []api.Open{}, Rates: []api.Rate{}}, true)
	likeness(t, api.Book{Count: -1}, api.Book{Count: -1}, true)
	for _, n := range append(edges(), 13) {
		b := sample()
		b.Count = n
		likeness(t, sample(), b, n == 12)
	}
}

// P12.1: one field of one thing makes books unlike, whether they may be or not.
func TestSameLooksAtEachField(t *testing.T) {
	for _, a := range []api.Book{sample(), grown(12, 12, 20, 100, chance(9))} {
		for _, by := range []int64{1, -1, 1 << 32, least} {
			for i := range fields(&a) {
				b := twin(a)
				*fields(&b)[i] += by
				likeness(t, a, b, false)
			}
			for i := range a.Opens {
				b := twin(a)
				b.Opens[i].Side += int(by)
				likeness(t, a, b, false)
			}
		}
	}
}

// P12.1: of books whose lists have unlike lengths, or another order, or things that may not be.
func TestSameOfAnyLists(t *testing.T) {
	a := sample()
	for _, change := range []func(b *api.Book){
		func(b *api.Book) { b.Holders = b.Holders[:2] }, func(b *api.Book) { b.Holders = b.Holders[1:] }, func(b *api.Book) { b.Holders = nil },
		func(b *api.Book) { b.Stakes = b.Stakes[:3] }, func(b *api.Book) { b.Stakes = b.Stakes[1:] }, func(b *api.Book) { b.Stakes = nil },
		func(b *api.Book) { b.Opens = b.Opens[:2] }, func(b *api.Book) { b.Opens = b.Opens[1:] }, func(b *api.Book) { b.Opens = nil },
		func(b *api.Book) { b.Rates = b.Rates[:2] }, func(b *api.Book) { b.Rates = b.Rates[1:] }, func(b *api.Book) { b.Rates = nil },
		func(b *api.Book) { slices.Reverse(b.Holders) }, func(b *api.Book) { slices.Reverse(b.Stakes) },
		func(b *api.Book) { slices.Reverse(b.Opens) }, func(b *api.Book) { slices.Reverse(b.Rates) },
		func(b *api.Book) { b.Holders = append(b.Holders, api.Holder{}) }, func(b *api.Book) { b.Stakes = append(b.Stakes, api.Stake{}) },
		func(b *api.Book) { b.Opens = append(b.Opens, api.Open{}) }, func(b *api.Book) { b.Rates = append(b.Rates, api.Rate{}) },
	} {
		b := twin(a)
		change(&b)
		likeness(t, a, b, false)
		likeness(t, b, twin(b), true)
	}
}

// P12.1: a copy is like what it is of, whether that may be or not.
func TestCopy(t *testing.T) {
	all := append(books(), sample())
	for _, change := range []func(b *api.Book){
		func(b *api.Book) { slices.Reverse(b.Holders) }, func(b *api.Book) { b.Stakes = make([]api.Stake, 2000) },
		func(b *api.Book) { b.Opens = make([]api.Open, 99) }, func(b *api.Book) { b.Rates = append(b.Rates, b.Rates...) },
		func(b *api.Book) { b.Count = least }, func(b *api.Book) { b.Count = most },
	} {
		b := sample()
		change(&b)
		all = append(all, b)
	}
	for _, b := range all {
		had := twin(b)
		if c := book.Copy(b); !alike(c, had) || !alike(b, had) {
			t.Fatalf("Copy of %s: %s", brief(had), brief(c))
		}
	}
}

// asked fails where what a book tells of a key isn't what its lists have.
func asked(t *testing.T, b api.Book, a, c int64) {
	t.Helper()
	var holder api.Holder
	var open api.Open
	var price, qty int64
	var account, order, symbol bool
	for _, h := range b.Holders {
		if h.Id == a {
			holder, account = h, true
		}
	}
	for _, o := range b.Opens {
		if o.Id == a {
			open, order = o, true
		}
	}
	for _, r := range b.Rates {
		if r.Sym == a {
			price, symbol = r.Price, true
		}
	}
	for _, s := range b.Stakes {
		if s.Acc == a && s.Sym == c {
			qty = s.Qty
		}
	}
	if h, there := book.Holder(b, a); h != holder || there != account {
		t.Fatalf("Holder %d of %s: %v, %v", a, brief(b), h, there)
	}
	if o, there := book.Open(b, a); o != open || there != order {
		t.Fatalf("Open %d of %s: %v, %v", a, brief(b), o, there)
	}
	if p, there := book.Rate(b, a); p != price || there != symbol {
		t.Fatalf("Rate %d of %s: %d, %v", a, brief(b), p, there)
	}
	if n := book.Stake(b, a, c); n != qty {
		t.Fatalf("Stake %d, %d of %s: %d", a, c, brief(b), n)
	}
}

// keysOf gives all keys of a book, those about them, and some others.
func keysOf(b api.Book) []int64 {
	l := edges()
	tell := func(key int64) { l = append(l, key-1, key, key+1, -key) }
	for _, h := range b.Holders {
		tell(h.Id)
	}
	for _, o := range b.Opens {
		tell(o.Id)
	}
	for _, r := range b.Rates {
		tell(r.Sym)
	}
	slices.Sort(l)
	return slices.Compact(l)
}

// P12.2: what has the key, and what of none.
func TestWhatHasTheKey(t *testing.T) {
	for _, b := range append(books(), sample()) {
		all := keysOf(b)
		if len(all) > 60 {
			all = slices.Concat(all[:20], all[len(all)/2-10:len(all)/2+10], all[len(all)-20:])
		}
		for _, a := range all {
			for _, c := range all {
				asked(t, b, a, c)
			}
		}
		for _, s := range b.Stakes {
			asked(t, b, s.Acc, s.Sym)
			asked(t, b, s.Sym, s.Acc)
		}
		for _, o := range b.Opens {
			asked(t, b, o.Id, 0)
		}
	}
}

// P12.2: of lists that rise and have things that may not be, or too many.
func TestWhatHasTheKeyOfBooksThatMayNotBe(t *testing.T) {
	b := api.Book{Count: -5}
	for i := range int64(3000) {
		b.Holders = append(b.Holders, api.Holder{Id: 2 * i, Cash: i, MaxPos: -1, MaxOrder: least})
		b.Stakes = append(b.Stakes, api.Stake{Acc: i / 50, Sym: i % 50 * 3, Qty: i % 3})
		b.Opens = append(b.Opens, api.Open{Id: 5*i - 2000, Acc: -i, Sym: i, Side: -3, Left: -i, Price: i % 2})
		b.Rates = append(b.Rates, api.Rate{Sym: i * i, Price: -i})
	}
	for i := int64(-30); i < 10000; i += 37 {
		asked(t, b, i, i%50*3)
		asked(t, b, i/50, i%150)
		asked(t, b, i*i, 0)
	}
	if h, there := book.Holder(b, 4); !there || h != (api.Holder{Id: 4, Cash: 2, MaxPos: -1, MaxOrder: least}) {
		t.Fatalf("Holder 4: %v, %v", h, there)
	}
	if p, there := book.Rate(b, 0); !there || p != 0 {
		t.Fatalf("a rate of 0: %d, %v", p, there)
	}
}
