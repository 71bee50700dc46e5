package snap_test

import (
	"math"
	"slices"
	"strings"
	"testing"

	"engross/api"
	"engross/book"
	"engross/snap"
)

// spare gives a list in memory of its own, with other things behind it.
func spare[T any](l []T, other T) []T {
	room := append(slices.Clone(l), other, other, other)
	return room[:len(l)]
}

// roomy gives a book like b whose lists have spare room.
func roomy(b api.Book) api.Book {
	return api.Book{
		Holders: spare(b.Holders, api.Holder{Id: 77}),
		Stakes:  spare(b.Stakes, api.Stake{Acc: 77}),
		Opens:   spare(b.Opens, api.Open{Id: 77}),
		Rates:   spare(b.Rates, api.Rate{Sym: 77}),
		Count:   b.Count,
	}
}

// wholes gives a book whose lists have their spare room, too.
func wholes(b api.Book) api.Book {
	return api.Book{
		Holders: b.Holders[:cap(b.Holders)],
		Stakes:  b.Stakes[:cap(b.Stakes)],
		Opens:   b.Opens[:cap(b.Opens)],
		Rates:   b.Rates[:cap(b.Rates)],
		Count:   b.Count,
	}
}

// spoil writes over all of a book, its spare room too.
func spoil(b api.Book) {
	b = wholes(b)
	for i := range b.Holders {
		b.Holders[i] = api.Holder{Id: -77}
	}
	for i := range b.Stakes {
		b.Stakes[i] = api.Stake{Acc: -77}
	}
	for i := range b.Opens {
		b.Opens[i] = api.Open{Id: -77}
	}
	for i := range b.Rates {
		b.Rates[i] = api.Rate{Sym: -77}
	}
}

// P13.1: the bytes of books, written down by hand.
func TestPutByHand(t *testing.T) {
	for _, x := range []struct {
		b api.Book
		s string
	}{
		{api.Book{}, strings.Repeat("\x00", 16)},
		{api.Book{Holders: []api.Holder{}, Stakes: []api.Stake{}, Opens: []api.Open{}, Rates: []api.Rate{}}, strings.Repeat("\x00", 16)},
		{api.Book{Count: 1 << 40}, "\x80\x80\x80\x80\x80\x20" + strings.Repeat("\x00", 15)},
		{sample(), "\x88\x27" +
			"\x03\x07\x01\x0c\x01\x88\x01\x01" + "\x03\xd0\x0f\x01\xa7\x14\x01\xd8\x04\x01" + "\x03\x16\x01\x04\x02" + "\x03\x18\x01\x04\x02" +
			"\x04\x07\x01\x00\x01\x0c\x01\x88\x01\x01" + "\x04\x06\x01\x0c\x01\x0b\x01\x15\x01" + "\x04\x2a\x01\x55\x01\x5a\x01\x5d\x01" +
			"\x02\x0a\x01\x02\x01" + "\x02\x04\x01\x0b\x01" + "\x02\x12\x01\x21\x01" + "\x02\x02\x01\x01\x01" + "\x02\x3e\x01\x04\x01" + "\x02\x40\x01\x04\x01" +
			"\x03\x0f\x01\x16\x01\x0c\x01" + "\x03\x52\x01\x02\x02"},
	} {
		if s, e := snap.Put(x.b); s != x.s || e != api.OK {
			t.Errorf("Put of %v: %q, error %d, not %q", x.b, s, e, x.s)
		}
		told(t, x.s, x.b, api.OK)
	}
}

// P13.1, P13.2, P13.3: the bytes of all books, and that they are got again.
func TestBooksArePutAndGot(t *testing.T) {
	for _, b := range books() {
		if s, e := snap.Put(b); s != textOf(b) || e != api.OK {
			t.Errorf("Put of %s: %.60q, error %d, not %.60q", brief(b), s, e, textOf(b))
		}
		told(t, textOf(b), b, api.OK)
	}
}

// wrongBooks are such as may not be, each by one rule of layer 12.
func wrongBooks() []api.Book {
	var list []api.Book
	add := func(hurt func(b *api.Book)) {
		b := roomy(sample())
		hurt(&b)
		list = append(list, b)
	}
	for _, n := range []int64{-1, 1<<40 + 1, least, most} {
		add(func(b *api.Book) { b.Count = n })
	}
	for _, n := range []int64{-1, least} {
		add(func(b *api.Book) { b.Holders[1].MaxPos = n })
		add(func(b *api.Book) { b.Holders[2].MaxOrder = n })
	}
	for _, n := range []int64{0, -1, least} {
		add(func(b *api.Book) { b.Opens[0].Left = n })
		add(func(b *api.Book) { b.Opens[1].Price = n })
		add(func(b *api.Book) { b.Rates[2].Price = n })
	}
	for _, n := range []int{-1, 2, 256, 1 << 32, 1<<32 + 1, math.MinInt, math.MaxInt} {
		add(func(b *api.Book) { b.Opens[0].Side = n })
	}
	add(func(b *api.Book) { b.Stakes[1].Qty = 0 })
	add(func(b *api.Book) { b.Stakes[3].Acc = 71 })
	add(func(b *api.Book) { b.Stakes[3].Sym = 4 })
	add(func(b *api.Book) { b.Opens[0].Acc = 71 })
	add(func(b *api.Book) { b.Opens[0].Sym = 4 })
	add(func(b *api.Book) { b.Holders[2].Id = 2 })
	add(func(b *api.Book) { b.Holders = b.Holders[:1] })
	add(func(b *api.Book) { b.Rates = b.Rates[1:] })
	add(func(b *api.Book) { slices.Reverse(b.Holders) })
	add(func(b *api.Book) { slices.Reverse(b.Stakes) })
	add(func(b *api.Book) { slices.Reverse(b.Opens) })
	add(func(b *api.Book) { slices.Reverse(b.Rates) })
	add(func(b *api.Book) { b.Opens[1].Id = 5 })
	add(func(b *api.Book) { b.Rates[1].Sym = 9 })
	add(func(b *api.Book) { b.Stakes[1].Sym = 3 })
	return list
}

// fullBooks are fullest books with one thing more than may be, the list of each first.
func fullBooks() map[int]api.Book {
	b := fullest()
	holder, open, rate, stake := roomy(b), roomy(b), roomy(b), roomy(b)
	holder.Holders = keyed(33, func(id int64) api.Holder { return api.Holder{Id: id} })
	holder.Stakes, holder.Opens = nil, nil
	open.Opens = keyed(65, func(id int64) api.Open {
		return api.Open{Id: id, Acc: b.Holders[0].Id, Sym: b.Rates[0].Sym, Left: 1, Price: 1}
	})
	rate.Rates = keyed(33, func(sym int64) api.Rate { return api.Rate{Sym: sym, Price: 1} })
	rate.Stakes, rate.Opens = nil, nil
	stake.Stakes = append(stake.Stakes, api.Stake{Acc: most, Sym: most, Qty: 1})
	return map[int]api.Book{0: holder, 4: stake, 7: open, 13: rate}
}

func keyed[T any](count int64, of func(key int64) T) []T {
	var l []T
	for key := range count {
		l = append(l, of(key))
	}
	return l
}

// P13.1: ErrArg of a book that may not be; P13.2: ErrForm of the bytes that such a one would have.
func TestBooksThatMayNotBe(t *testing.T) {
	for _, b := range wrongBooks() {
		if s, e := snap.Put(b); s != "" || e != api.ErrArg {
			t.Errorf("Put of %v: %q, error %d", b, s, e)
		}
		if b.Count < 0 || b.Count > 1<<40 {
			refused(t, textOf(b), api.ErrMany)
			continue
		}
		refused(t, textOf(b), api.ErrForm)
		for _, behind := range []string{"\x00", "\x80", "x"} {
			refused(t, textOf(b)+behind, api.ErrForm)
		}
	}
	for _, b := range fullBooks() {
		if s, e := snap.Put(b); s != "" || e != api.ErrArg {
			t.Errorf("Put of %s: %.60q, error %d", brief(b), s, e)
		}
		refused(t, textOf(b), api.ErrMany)
	}
}

// Rules 5 and 6: what is handed in stays as it was, its spare room too, and no two answers share memory.
func TestAnswersAreNewMemory(t *testing.T) {
	for _, b := range append(books()[:20], wrongBooks()...) {
		room := roomy(b)
		had := book.Copy(wholes(room))
		s, e := snap.Put(room)
		if !book.Same(wholes(room), had) {
			t.Fatalf("Put changed %s to %s", brief(had), brief(wholes(room)))
		}
		if e != api.OK {
			continue
		}
		first, _ := snap.Get(s)
		second, _ := snap.Get(s)
		spoil(first)
		spoil(room)
		if !book.Same(second, b) {
			t.Fatalf("two answers share memory: %s is now %s", brief(b), brief(second))
		}
		told(t, s, b, api.OK)
	}
}
