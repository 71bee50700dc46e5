package diff_test

import (
	"slices"
	"testing"

	"engross/api"
	"engross/book"
	"engross/diff"
)

// values are those of a thing.
func values(l ...int64) []int64 { return l }

// wrongBooks are such as may not be.
func wrongBooks() []api.Book {
	var list []api.Book
	for _, hurt := range []func(b *api.Book){
		func(b *api.Book) { b.Count = -1 }, func(b *api.Book) { b.Count = 1<<40 + 1 },
		func(b *api.Book) { b.Holders[1].MaxPos = -1 }, func(b *api.Book) { b.Holders[1].Id = -4 },
		func(b *api.Book) { b.Stakes[1].Qty = 0 }, func(b *api.Book) { slices.Reverse(b.Stakes) },
		func(b *api.Book) { b.Opens[0].Side = 2 }, func(b *api.Book) { b.Opens[1].Id = 5 },
		func(b *api.Book) { b.Rates[0].Price = 0 }, func(b *api.Book) { b.Rates = b.Rates[:2] },
		func(b *api.Book) { b.Opens[0].Left = 0 }, func(b *api.Book) { b.Holders = b.Holders[1:] },
	} {
		b := sample()
		hurt(&b)
		list = append(list, b)
	}
	return list
}

// The examples of chapter 14.
func TestExamplesOfTheChapter(t *testing.T) {
	l, e := diff.Diff(api.Book{}, api.Book{Rates: []api.Rate{{Sym: 3, Price: 10}}})
	if e != api.OK || len(l) != 1 || l[0].List != 4 || l[0].A != 3 || l[0].B != 0 || len(l[0].Was) != 0 || !slices.Equal(l[0].Is, values(10)) {
		t.Fatalf("%v, error %d", l, e)
	}
}

// P14.1: the changes of all lists, written down by hand.
func TestDiffByHand(t *testing.T) {
	b := sample()
	b.Count = 5001
	b.Holders[0].MaxPos, b.Holders[2].MaxOrder = 99, 98
	b = book.SetHolder(b, api.Holder{Id: 3, Cash: 1, MaxPos: 2, MaxOrder: 3})
	b = book.SetStake(b, api.Stake{Acc: -4, Sym: 9})
	b = book.SetStake(b, api.Stake{Acc: -4, Sym: -8, Qty: 7})
	b = book.SetStake(b, api.Stake{Acc: 70, Sym: -8, Qty: 24})
	b = book.SetOpen(b, api.Open{Id: 5})
	b = book.SetOpen(b, api.Open{Id: 6, Acc: 2, Sym: -8, Side: 1, Left: 33, Price: 34})
	b = book.SetOpen(b, api.Open{Id: -9, Acc: 70, Sym: 3, Side: 1, Left: 4, Price: 5})
	b = book.SetRate(b, api.Rate{Sym: 9, Price: 44})
	want := []diff.Change{
		{1, -4, 0, values(1000, 11, 12), values(1000, 99, 12)},
		{1, 3, 0, nil, values(1, 2, 3)},
		{1, 70, 0, values(0, 15, 16), values(0, 15, 98)},
		{2, -4, -8, nil, values(7)},
		{2, -4, 9, values(-22), nil},
		{2, 70, -8, values(-24), values(24)},
		{3, -9, 0, nil, values(70, 3, 1, 4, 5)},
		{3, 5, 0, values(2, 9, 1, 31, 32), nil},
		{3, 6, 0, values(-4, -8, 0, 33, 34), values(2, -8, 1, 33, 34)},
		{4, 9, 0, values(43), values(44)},
		{5, 0, 0, values(5000), values(5001)},
	}
	if l, e := diff.Diff(sample(), b); e != api.OK || !alike(l, want) {
		t.Errorf("%v, error %d, not %v", l, e, want)
	}
	if c, e := diff.Patch(sample(), want); e != api.OK || !book.Same(c, b) {
		t.Errorf("%v, error %d, not %v", c, e, b)
	}
}

// P14.1: one field of one thing is told as one change.
func TestEachField(t *testing.T) {
	for _, x := range []struct {
		change func(b *api.Book)
		want   diff.Change
	}{
		{func(b *api.Book) { b.Holders[1].Cash = 7 }, diff.Change{1, 2, 0, values(-300, 13, 14), values(7, 13, 14)}},
		{func(b *api.Book) { b.Holders[1].MaxPos = 7 }, diff.Change{1, 2, 0, values(-300, 13, 14), values(-300, 7, 14)}},
		{func(b *api.Book) { b.Holders[1].MaxOrder = 7 }, diff.Change{1, 2, 0, values(-300, 13, 14), values(-300, 13, 7)}},
		{func(b *api.Book) { b.Stakes[2].Qty = 7 }, diff.Change{2, 2, 3, values(23), values(7)}},
		{func(b *api.Book) { b.Opens[0].Acc = 70 }, diff.Change{3, 5, 0, values(2, 9, 1, 31, 32), values(70, 9, 1, 31, 32)}},
		{func(b *api.Book) { b.Opens[0].Sym = 3 }, diff.Change{3, 5, 0, values(2, 9, 1, 31, 32), values(2, 3, 1, 31, 32)}},
		{func(b *api.Book) { b.Opens[0].Side = 0 }, diff.Change{3, 5, 0, values(2, 9, 1, 31, 32), values(2, 9, 0, 31, 32)}},
		{func(b *api.Book) { b.Opens[0].Left = 7 }, diff.Change{3, 5, 0, values(2, 9, 1, 31, 32), values(2, 9, 1, 7, 32)}},
		{func(b *api.Book) { b.Opens[0].Price = 7 }, diff.Change{3, 5, 0, values(2, 9, 1, 31, 32), values(2, 9, 1, 31, 7)}},
		{func(b *api.Book) { b.Rates[2].Price = 7 }, diff.Change{4, 9, 0, values(43), values(7)}},
		{func(b *api.Book) { b.Count = 0 }, diff.Change{5, 0, 0, values(5000), values(0)}},
		{func(b *api.Book) { b.Count = 1 << 40 }, diff.Change{5, 0, 0, values(5000), values(1 << 40)}},
	} {
		b := sample()
		x.change(&b)
		want := []diff.Change{x.want}
		if l, e := diff.Diff(sample(), b); e != api.OK || !alike(l, want) {
			t.Errorf("%v, error %d, not %v", l, e, want)
		}
		if c, e := diff.Patch(sample(), want); e != api.OK || !book.Same(c, b) {
			t.Errorf("Patch by %v: %v, error %d", want, c, e)
		}
	}
}

// P14.1, P14.3: of all pairs of books the diff is the chapter's, it is empty just if both are alike, and it makes each of the other.
func TestDiffOfBooks(t *testing.T) {
	for _, p := range pairs() {
		a, b := p[0], p[1]
		l, e := diff.Diff(a, b)
		if want := wantedDiff(a, b); e != api.OK || !alike(l, want) || !mayBe(l) {
			t.Errorf("Diff of %s and %s: %s, error %d, not %s", brief(a), brief(b), brief(l), e, brief(want))
		}
		if (len(l) == 0) != book.Same(a, b) {
			t.Errorf("%d changes of %s and %s", len(l), brief(a), brief(b))
		}
		if c, e := diff.Patch(a, l); e != api.OK || !book.Same(c, b) {
			t.Errorf("Patch of %s by its diff: %s, error %d, not %s", brief(a), brief(c), e, brief(b))
		}
		if c, e := diff.Patch(b, diff.Turn(l)); e != api.OK || !book.Same(c, a) {
			t.Errorf("Patch of %s by its diff, turned: %s, error %d, not %s", brief(b), brief(c), e, brief(a))
		}
		if back, _ := diff.Diff(b, a); !alike(back, diff.Turn(l)) {
			t.Errorf("the diff the other way round is %s, not %s, turned", brief(back), brief(l))
		}
		for _, c := range p {
			if l, e := diff.Diff(c, book.Copy(c)); e != api.OK || len(l) != 0 {
				t.Errorf("Diff of a book and itself: %s, error %d", brief(l), e)
			}
		}
	}
}

// P14.1: none and ErrArg of a book that may not be, on either side, and beside one that is like it.
func TestDiffOfBooksThatMayNotBe(t *testing.T) {
	for _, wrong := range wrongBooks() {
		for _, p := range [][2]api.Book{{wrong, sample()}, {sample(), wrong}, {wrong, wrong}, {{}, wrong}, {wrong, {}}} {
			if l, e := diff.Diff(p[0], p[1]); len(l) != 0 || e != api.ErrArg {
				t.Errorf("Diff of %v and %v: %v, error %d", p[0], p[1], l, e)
			}
		}
	}
}

// someChanges are of all kinds, such as may not be too.
func someChanges() []diff.Change {
	return []diff.Change{
		{1, 2, 0, values(3, 4, 5), values(6, 7, 8)}, {5, 0, 0, nil, values(1)}, {0, 0, 0, nil, nil}, {-1 << 40, least, most, values(1, 2), nil},
		{2, 2, 3, values(), values(0)}, {2, 2, 3, values(0), values()}, {3, 1, 1, values(1, 2, 3, 4, 5, 6, 7), values(1)},
	}
}

// likeness fails where Same doesn't tell just this, in either order.
func likeness(t *testing.T, a, b []diff.Change, want bool) {
	t.Helper()
	if diff.Same(a, b) != want || diff.Same(b, a) != want {
		t.Errorf("Same isn't %v of %v and %v", want, a, b)
	}
}

// P14.1: changes are alike if all their fields are, whatever they are.
func TestSame(t *testing.T) {
	likeness(t, nil, nil, true)
	likeness(t, nil, []diff.Change{}, true)
	likeness(t, nil, []diff.Change{{}}, false)
	likeness(t, []diff.Change{{}}, []diff.Change{{}, {}}, false)
	likeness(t, []diff.Change{{Was: values()}}, []diff.Change{{Is: values()}}, true)
	all := someChanges()
	likeness(t, all, someChanges(), true)
	likeness(t, all, all[:6], false)
	likeness(t, all, all[1:], false)
	likeness(t, all[:2], []diff.Change{all[1], all[0]}, false)
	for i := range all {
		for j := range all {
			likeness(t, all[i:i+1], all[j:j+1], i == j)
		}
		for _, change := range []func(c *diff.Change){
			func(c *diff.Change) { c.List++ }, func(c *diff.Change) { c.A++ }, func(c *diff.Change) { c.B++ },
			func(c *diff.Change) { c.List += 1 << 32 }, func(c *diff.Change) { c.A += 1 << 32 }, func(c *diff.Change) { c.B ^= least },
			func(c *diff.Change) { c.Was = append(c.Was, 0) }, func(c *diff.Change) { c.Is = append(c.Is, 0) },
			func(c *diff.Change) { c.Was = append(values(9), c.Was...) }, func(c *diff.Change) { c.Is = append(values(9), c.Is...) },
		} {
			other := someChanges()
			change(&other[i])
			likeness(t, all, other, false)
		}
		for j := range all[i].Was {
			other := someChanges()
			other[i].Was[j]++
			likeness(t, all, other, false)
		}
		for j := range all[i].Is {
			other := someChanges()
			other[i].Is[j] += 1 << 40
			likeness(t, all, other, false)
		}
	}
}

// P14.1: Turn puts Was and Is in each other's place, whatever the changes are, and leaves all else.
func TestTurn(t *testing.T) {
	had := someChanges()
	turned := diff.Turn(had)
	if len(turned) != len(had) {
		t.Fatalf("%d of %d", len(turned), len(had))
	}
	for i, c := range someChanges() {
		if got := turned[i]; placeOf(got) != placeOf(c) || !slices.Equal(got.Was, c.Is) || !slices.Equal(got.Is, c.Was) {
			t.Errorf("%v turned: %v", c, got)
		}
	}
	likeness(t, diff.Turn(turned), had, true)
	if l := diff.Turn(nil); len(l) != 0 {
		t.Errorf("none, turned: %v", l)
	}
}
