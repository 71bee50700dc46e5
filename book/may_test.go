package book_test

import (
	"slices"
	"testing"

	"engross/api"
	"engross/book"
)

// asWorded fails where May tells something else than the chapter's words.
func asWorded(t *testing.T, b api.Book) bool {
	t.Helper()
	want := mayBe(b)
	if got := book.May(b); got != want {
		t.Fatalf("May of %s: %v", brief(b), got)
	}
	return want
}

// P12.1: books that may be.
func TestBooksThatMayBe(t *testing.T) {
	for i, b := range books() {
		if !book.May(b) {
			t.Fatalf("the book %d: %s", i, brief(b))
		}
	}
	if !book.May(api.Book{Holders: []api.Holder{}, Stakes: []api.Stake{}, Opens: []api.Open{}, Rates: []api.Rate{}}) {
		t.Error("a book with empty lists")
	}
}

// sample is a book that may be, with more than one thing of each kind.
func sample() api.Book {
	return api.Book{
		Holders: []api.Holder{{Id: -4, Cash: 9, MaxPos: 1, MaxOrder: 2}, {Id: 2, Cash: -9}, {Id: 6, MaxPos: 5, MaxOrder: 6}},
		Stakes:  []api.Stake{{Acc: -4, Sym: 3, Qty: 1}, {Acc: 2, Sym: 1, Qty: -1}, {Acc: 2, Sym: 3, Qty: 8}, {Acc: 6, Sym: 1, Qty: 4}},
		Opens:   []api.Open{{Id: -1, Acc: 2, Sym: 3, Left: 5, Price: 6}, {Id: 0, Acc: -4, Sym: 1, Side: 1, Left: 1, Price: 1}, {Id: 7, Acc: 6, Sym: 3, Left: 2, Price: 9}},
		Rates:   []api.Rate{{Sym: 1, Price: 4}, {Sym: 3, Price: 1}, {Sym: 5, Price: 7}},
		Count:   12,
	}
}

// P12.1: each rule of a thing alone, at its edges, of each thing.
func TestRulesOfThings(t *testing.T) {
	had := sample()
	for n, may := range map[int64]bool{0: true, 1: true, most: true, 1 << 32: true, -1: false, least: false, -1 << 32: false} {
		for i := range had.Holders {
			told(t, may, func(b *api.Book) { b.Holders[i].MaxPos = n })
			told(t, may, func(b *api.Book) { b.Holders[i].MaxOrder = n })
			told(t, true, func(b *api.Book) { b.Holders[i].Cash = n })
		}
		for i := range had.Rates {
			told(t, may && n != 0, func(b *api.Book) { b.Rates[i].Price = n })
		}
		for i := range had.Stakes {
			told(t, n != 0, func(b *api.Book) { b.Stakes[i].Qty = n })
		}
		for i := range had.Opens {
			told(t, may && n != 0, func(b *api.Book) { b.Opens[i].Left = n })
			told(t, may && n != 0, func(b *api.Book) { b.Opens[i].Price = n })
			told(t, n == 0 || n == 1, func(b *api.Book) { b.Opens[i].Side = int(n) })
		}
	}
	for i := range had.Opens {
		for _, side := range []int{2, 3, -2, 256, 257, 1<<32 + 1} {
			told(t, false, func(b *api.Book) { b.Opens[i].Side = side })
		}
	}
	for n, may := range map[int64]bool{0: true, 1: true, 1<<40 - 1: true, 1 << 40: true, 1<<40 + 1: false, 1 << 41: false, most: false, -1: false, least: false, -1 << 40: false} {
		told(t, may, func(b *api.Book) { b.Count = n })
	}
}

// told fails where May tells something else of the sample behind a change.
func told(t *testing.T, may bool, change func(b *api.Book)) {
	t.Helper()
	b := sample()
	change(&b)
	if book.May(b) != may {
		t.Fatalf("May isn't %v of %s", may, brief(b))
	}
	if asWorded(t, b) != may {
		t.Fatalf("the words don't say %v of %s", may, brief(b))
	}
}

// P12.1: accounts and symbols that are there, and ones that aren't.
func TestWhatThingsNameIsThere(t *testing.T) {
	had := sample()
	for i := range had.Holders {
		told(t, false, func(b *api.Book) { b.Holders = slices.Delete(b.Holders, i, i+1) })
		told(t, false, func(b *api.Book) {
			b.Stakes = nil
			b.Holders = slices.Delete(b.Holders, i, i+1)
		})
		told(t, false, func(b *api.Book) {
			b.Opens = nil
			b.Holders = slices.Delete(b.Holders, i, i+1)
		})
		told(t, true, func(b *api.Book) {
			b.Opens, b.Stakes = nil, nil
			b.Holders = slices.Delete(b.Holders, i, i+1)
		})
	}
	for i := range had.Rates {
		told(t, i == 2, func(b *api.Book) { b.Rates = slices.Delete(b.Rates, i, i+1) })
	}
	for _, id := range append(edges(), -4, 2, 6, 1, 3, 5) {
		account, symbol := id == -4 || id == 2 || id == 6, id == 1 || id == 3 || id == 5
		told(t, account, func(b *api.Book) { b.Stakes = []api.Stake{{Acc: id, Sym: 3, Qty: 1}} })
		told(t, symbol, func(b *api.Book) { b.Stakes = []api.Stake{{Acc: 2, Sym: id, Qty: 1}} })
		told(t, account, func(b *api.Book) { b.Opens[1].Acc = id })
		told(t, symbol, func(b *api.Book) { b.Opens[1].Sym = id })
	}
}

// P12.1: lists whose keys don't rise, or come twice, at each place.
func TestListsThatDoNotRise(t *testing.T) {
	for _, b := range []api.Book{sample(), grown(32, 32, 64, 100, chance(3))} {
		broken(t, b, func(b *api.Book) *[]api.Holder { return &b.Holders }, func(to *api.Holder, from api.Holder) { to.Id = from.Id })
		broken(t, b, func(b *api.Book) *[]api.Stake { return &b.Stakes }, func(to *api.Stake, from api.Stake) { to.Acc, to.Sym = from.Acc, from.Sym })
		broken(t, b, func(b *api.Book) *[]api.Open { return &b.Opens }, func(to *api.Open, from api.Open) { to.Id = from.Id })
		broken(t, b, func(b *api.Book) *[]api.Rate { return &b.Rates }, func(to *api.Rate, from api.Rate) { to.Sym = from.Sym })
	}
}

// broken breaks the order of a list of b at each place.
func broken[T any](t *testing.T, b api.Book, list func(b *api.Book) *[]T, key func(to *T, from T)) {
	t.Helper()
	for i := range len(*list(&b)) - 1 {
		changes := []func(l []T) []T{
			func(l []T) []T { l[i], l[i+1] = l[i+1], l[i]; return l },
			func(l []T) []T { key(&l[i], l[i+1]); return l },
			func(l []T) []T { key(&l[i+1], l[i]); return l },
			func(l []T) []T { return slices.Insert(l, i, l[i]) },
			func(l []T) []T { l[0], l[i+1] = l[i+1], l[0]; return l },
			func(l []T) []T { return append(l[i+1:], l[:i+1]...) },
		}
		for n, change := range changes {
			c := twin(b)
			l := list(&c)
			if *l = change(*l); book.May(c) {
				t.Fatalf("the change %d of %T at %d", n, *l, i)
			}
		}
	}
}

// P12.1: stakes rise by their account first, and by their symbol within it.
func TestStakesRiseByAccountThenSymbol(t *testing.T) {
	for _, l := range [][]api.Stake{
		{{Acc: 2, Sym: 5, Qty: 1}, {Acc: 6, Sym: 1, Qty: 1}},
		{{Acc: 2, Sym: 1, Qty: 1}, {Acc: 2, Sym: 3, Qty: 1}, {Acc: 2, Sym: 5, Qty: 1}, {Acc: 6, Sym: 1, Qty: 1}},
	} {
		told(t, true, func(b *api.Book) { b.Stakes = l })
		reversed := slices.Clone(l)
		slices.Reverse(reversed)
		told(t, false, func(b *api.Book) { b.Stakes = reversed })
	}
	told(t, false, func(b *api.Book) { b.Stakes = []api.Stake{{Acc: 6, Sym: 1, Qty: 1}, {Acc: 2, Sym: 5, Qty: 1}} })
	told(t, false, func(b *api.Book) { b.Stakes = []api.Stake{{Acc: 2, Sym: 5, Qty: 1}, {Acc: 2, Sym: 1, Qty: 1}} })
}

// P12.1: as many things as may be, and more.
func TestLimitsOfLists(t *testing.T) {
	for _, n := range []int{0, 1, 31, 32, 33, 34, 63, 64, 65, 66, 1000} {
		var b api.Book
		for i := range n {
			b.Holders = append(b.Holders, api.Holder{Id: int64(i)})
		}
		if book.May(b) != (n <= 32) {
			t.Fatalf("%d holders", n)
		}
		b = api.Book{}
		for i := range n {
			b.Rates = append(b.Rates, api.Rate{Sym: int64(i), Price: 1})
		}
		if book.May(b) != (n <= 32) {
			t.Fatalf("%d rates", n)
		}
		b = api.Book{Holders: []api.Holder{{}}, Rates: []api.Rate{{Price: 1}}}
		for i := range n {
			b.Opens = append(b.Opens, api.Open{Id: int64(i), Left: 1, Price: 1})
		}
		if book.May(b) != (n <= 64) {
			t.Fatalf("%d open orders", n)
		}
	}
	long := make([]api.Stake, 1<<20)
	for i := range long {
		long[i] = api.Stake{Acc: int64(i), Sym: 1, Qty: 1}
	}
	told(t, false, func(b *api.Book) { b.Stakes = long })
}

// P12.1: all books of few things that have few values.
func TestAllSmallBooks(t *testing.T) {
	var holders [][]api.Holder
	var rates [][]api.Rate
	var stakes [][]api.Stake
	var opens [][]api.Open
	for _, l := range lists([]int64{1, 2}, 2) {
		var h []api.Holder
		var r []api.Rate
		for _, id := range l {
			h, r = append(h, api.Holder{Id: id}), append(r, api.Rate{Sym: id, Price: 1})
		}
		holders, rates = append(holders, h), append(rates, r)
	}
	for _, l := range lists([]int64{11, 12, 21, 22}, 3) {
		var s []api.Stake
		for _, key := range l {
			s = append(s, api.Stake{Acc: key / 10, Sym: key % 10, Qty: 1})
		}
		stakes = append(stakes, s)
	}
	for _, l := range lists([]int64{111, 112, 221}, 2) {
		var o []api.Open
		for _, key := range l {
			o = append(o, api.Open{Id: key / 100, Acc: key / 10 % 10, Sym: key % 10, Left: 1, Price: 1})
		}
		opens = append(opens, o)
	}
	found := map[bool]int{}
	for _, h := range holders {
		for _, r := range rates {
			for _, s := range stakes {
				for _, o := range opens {
					found[asWorded(t, api.Book{Holders: h, Stakes: s, Opens: o, Rates: r})]++
				}
			}
		}
	}
	if found[true] < 100 || found[false] < 10000 {
		t.Fatalf("books that may be, and others: %v", found)
	}
}

// lists gives all lists of at most so many of these.
func lists(of []int64, length int) [][]int64 {
	all := [][]int64{nil}
	for i := 0; i < len(all); i++ {
		if len(all[i]) < length {
			for _, n := range of {
				all = append(all, append(slices.Clip(all[i]), n))
			}
		}
	}
	return all
}

// P12.1: books that are touched at some places.
func TestBooksThatAreTouched(t *testing.T) {
	below, all := chance(5), books()
	values := []int64{least, -1, 0, 1, 2, most}
	found := map[bool]int{}
	for range 20000 {
		b := twin(all[below(len(all))])
		for range 1 + below(2) {
			touch(&b, values[below(len(values))], below)
		}
		found[asWorded(t, b)]++
	}
	if found[true] < 1000 || found[false] < 1000 {
		t.Fatalf("books that may be, and others: %v", found)
	}
}
