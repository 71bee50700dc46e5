package diff_test

import (
	"math"
	"slices"
	"testing"

	"engross/api"
	"engross/book"
	"engross/diff"
)

// quoted is a change that may be, of a rate that isn't there.
var quoted = diff.Change{List: 4, A: 5, Is: values(1)}

// P14.2: changes that may not be, each by one rule, alone and among others.
func TestChangesThatMayNotBe(t *testing.T) {
	var wrong []diff.Change
	for _, list := range []int{0, -1, 6, 7, 256 + 4, 1<<32 + 4, math.MinInt, math.MaxInt} {
		for size := range 6 {
			wrong = append(wrong, diff.Change{List: list, Is: make([]int64, size)}, diff.Change{List: list, Was: make([]int64, size)})
		}
	}
	for list, size := range map[int]int{1: 3, 2: 1, 3: 5, 4: 1, 5: 1} {
		for n := range 8 {
			if n != size && n > 0 {
				wrong = append(wrong, diff.Change{List: list, Is: make([]int64, n)}, diff.Change{List: list, Was: make([]int64, n)},
					diff.Change{List: list, Was: make([]int64, size), Is: make([]int64, n)}, diff.Change{List: list, Was: make([]int64, n), Is: make([]int64, size)})
			}
		}
		wrong = append(wrong, diff.Change{List: list}, diff.Change{List: list, Was: make([]int64, size), Is: make([]int64, size)})
		for _, n := range []int64{1, -1, 1 << 32, least, most} {
			one := make([]int64, size)
			one[size-1] = 1
			if list != 2 {
				wrong = append(wrong, diff.Change{List: list, B: n, Is: one}, diff.Change{List: list, B: n, Was: one}, diff.Change{List: list, B: n, Was: one, Is: make([]int64, size)})
			}
			if list == 5 {
				wrong = append(wrong, diff.Change{List: list, A: n, Was: one, Is: make([]int64, size)})
			}
		}
	}
	wrong = append(wrong, diff.Change{List: 5, Is: values(1)}, diff.Change{List: 5, Was: values(0)})
	for _, side := range []int64{-1, 2, 1 << 32, 1<<32 + 1, least, most} {
		wrong = append(wrong, diff.Change{List: 3, Is: values(1, 1, side, 1, 1)}, diff.Change{List: 3, Was: values(1, 1, side, 1, 1)},
			diff.Change{List: 3, Was: values(1, 1, 1, 1, 1), Is: values(1, 1, side, 1, 1)}, diff.Change{List: 3, Was: values(1, 1, side, 1, 1), Is: values(1, 1, 0, 1, 1)})
	}
	for _, c := range wrong {
		if mayBe([]diff.Change{c}) {
			t.Fatalf("%v may be", c)
		}
		for _, l := range [][]diff.Change{{c}, {quoted, c}, {c, quoted}, {{List: 1, A: least, Is: values(1, 1, 1)}, c, {List: 5, Was: values(0), Is: values(1)}}} {
			refused(t, api.Book{}, l, api.ErrForm)
			refused(t, sample(), l, api.ErrForm)
		}
	}
}

// P14.2: changes rise by List, then A, then B, none twice.
func TestChangesRise(t *testing.T) {
	count := diff.Change{List: 5, Was: values(5000), Is: values(5001)}
	all := []diff.Change{
		{List: 1, A: least, Is: values(1, 1, 1)}, {List: 1, A: -1, Is: values(1, 1, 1)}, {List: 1, A: 1 << 32, Is: values(1, 1, 1)},
		{List: 2, A: least, B: -8, Is: values(1)}, {List: 2, A: least, B: 3, Is: values(1)}, {List: 2, A: -1, B: -8, Is: values(1)}, {List: 2, A: 2, B: -8, Is: values(1)}, {List: 2, A: 2, B: 9, Is: values(1)},
		{List: 3, A: -1 << 33, Is: values(2, 3, 1, 1, 1)}, {List: 3, A: 7, Is: values(2, 3, 0, 1, 1)}, {List: 3, A: most, Is: values(-4, 3, 0, 1, 1)},
		{List: 4, A: -9, Is: values(1)}, {List: 4, A: 4, Is: values(1)}, count,
	}
	if e := asWorded(t, sample(), all); e != api.OK {
		t.Fatalf("error %d", e)
	}
	for i := range all {
		twice := slices.Insert(slices.Clone(all), i, all[i])
		refused(t, sample(), twice, api.ErrForm)
		for j := range i {
			swapped := slices.Clone(all)
			swapped[i], swapped[j] = swapped[j], swapped[i]
			refused(t, sample(), swapped, api.ErrForm)
			refused(t, sample(), []diff.Change{all[i], all[j]}, api.ErrForm)
			if e := asWorded(t, sample(), []diff.Change{all[j], all[i]}); e == api.ErrForm {
				t.Errorf("%v and %v", all[j], all[i])
			}
		}
	}
	// The same key twice, with values that fit each other.
	refused(t, sample(), []diff.Change{{List: 4, A: 9, Was: values(43), Is: values(44)}, {List: 4, A: 9, Was: values(44), Is: values(45)}}, api.ErrForm)
}

// P14.2: ErrNone, if a key's values aren't Was: other ones, none, or some where there are none.
func TestWhatWasNot(t *testing.T) {
	for _, c := range []diff.Change{
		{1, 2, 0, values(-301, 13, 14), nil}, {1, 2, 0, values(-300, 12, 14), nil}, {1, 2, 0, values(-300, 13, 15), nil}, {1, 2, 0, nil, values(1, 1, 1)}, {1, 3, 0, values(0, 0, 0), values(1, 1, 1)},
		{2, 2, 3, values(22), nil}, {2, 2, 3, nil, values(22)}, {2, 2, 9, values(0), values(1)}, {2, 3, 2, values(23), nil}, {2, 70, 3, values(-24), values(1)},
		{3, 5, 0, values(70, 9, 1, 31, 32), nil}, {3, 5, 0, values(2, 3, 1, 31, 32), nil}, {3, 5, 0, values(2, 9, 0, 31, 32), nil}, {3, 5, 0, values(2, 9, 1, 30, 32), nil}, {3, 5, 0, values(2, 9, 1, 31, 33), nil},
		{3, 5, 0, nil, values(2, 9, 0, 31, 32)}, {3, 7, 0, values(2, 9, 1, 31, 32), nil}, {3, 0, 0, values(0, 0, 0, 0, 0), values(2, 9, 1, 31, 32)},
		{4, 9, 0, values(42), values(44)}, {4, 9, 0, nil, values(44)}, {4, 10, 0, values(43), nil}, {4, least, 0, values(41), nil}, {4, most, 0, values(0), values(1)},
		{5, 0, 0, values(4999), values(5001)}, {5, 0, 0, values(0), values(5001)},
	} {
		refused(t, sample(), []diff.Change{c}, api.ErrNone)
		// ErrNone stands ahead of what the book becomes.
		for _, other := range []diff.Change{{1, -4, 0, values(1000, 11, 12), nil}, {5, 0, 0, values(5000), values(-1)}} {
			l := []diff.Change{other, c}
			slices.SortFunc(l, func(x, y diff.Change) int {
				p, q := placeOf(x), placeOf(y)
				return slices.Compare(p[:], q[:])
			})
			if mayBe(l) {
				refused(t, sample(), l, api.ErrNone)
			}
		}
	}
}

// P14.2: ErrArg, if the book may not be then.
func TestWhatMayNotBeThen(t *testing.T) {
	for _, l := range [][]diff.Change{
		{{1, -4, 0, values(1000, 11, 12), nil}}, {{1, 2, 0, values(-300, 13, 14), values(-300, -1, 14)}}, {{1, 2, 0, values(-300, 13, 14), values(-300, 13, least)}},
		{{2, 2, 3, values(23), values(0)}}, {{2, 3, 3, nil, values(1)}}, {{2, 2, 4, nil, values(1)}}, {{2, 2, 9, nil, values(0)}}, {{2, 3, 2, nil, values(0)}},
		{{3, 5, 0, values(2, 9, 1, 31, 32), values(2, 9, 1, 0, 32)}}, {{3, 5, 0, values(2, 9, 1, 31, 32), values(2, 9, 1, 31, 0)}}, {{3, 5, 0, values(2, 9, 1, 31, 32), values(2, 9, 1, -1, 32)}},
		{{3, 5, 0, values(2, 9, 1, 31, 32), values(3, 9, 1, 31, 32)}}, {{3, 5, 0, values(2, 9, 1, 31, 32), values(2, 4, 1, 31, 32)}}, {{3, 7, 0, nil, values(2, 9, 1, 0, 32)}},
		{{4, 9, 0, values(43), nil}}, {{4, 9, 0, values(43), values(0)}}, {{4, 10, 0, nil, values(0)}}, {{4, 10, 0, nil, values(least)}},
		{{5, 0, 0, values(5000), values(-1)}}, {{5, 0, 0, values(5000), values(1<<40 + 1)}},
	} {
		refused(t, sample(), l, api.ErrArg)
	}
}

// P14.2: what goes together may be: an account with its stakes and its orders.
func TestWhatGoesTogether(t *testing.T) {
	l := []diff.Change{
		{1, 2, 0, values(-300, 13, 14), nil}, {1, 3, 0, nil, values(9, 8, 7)}, {2, 2, 3, values(23), nil}, {2, 3, 4, nil, values(6)},
		{3, 5, 0, values(2, 9, 1, 31, 32), values(3, 4, 0, 5, 4)}, {4, 4, 0, nil, values(2)},
	}
	b, e := diff.Patch(sample(), l)
	want := sample()
	want.Holders[1] = api.Holder{Id: 3, Cash: 9, MaxPos: 8, MaxOrder: 7}
	want.Stakes[2] = api.Stake{Acc: 3, Sym: 4, Qty: 6}
	want.Opens[0] = api.Open{Id: 5, Acc: 3, Sym: 4, Left: 5, Price: 4}
	want.Rates = slices.Insert(want.Rates, 2, api.Rate{Sym: 4, Price: 2})
	if e != api.OK || !book.Same(b, want) {
		t.Errorf("%v, error %d, not %v", b, e, want)
	}
}

// P14.2: full lists take what comes instead, and nothing more.
func TestFullLists(t *testing.T) {
	full := grown(32, 32, 64, 100, chance(3))
	key := int64(77)
	first := full.Opens[0]
	was := values(first.Acc, first.Sym, int64(first.Side), first.Left, first.Price)
	instead := []diff.Change{{3, first.Id, 0, was, nil}, {3, key, 0, nil, values(first.Acc, first.Sym, 0, 1, 1)}}
	if e := asWorded(t, full, instead); e != api.OK {
		t.Errorf("an order instead of another: error %d", e)
	}
	for _, c := range []diff.Change{{1, key, 0, nil, values(1, 1, 1)}, instead[1], {4, key, 0, nil, values(1)}} {
		refused(t, full, []diff.Change{c}, api.ErrArg)
	}
}

// P14.2: ErrArg of a book that may not be stands ahead of all faults of the changes.
func TestPatchOfBooksThatMayNotBe(t *testing.T) {
	for _, wrong := range wrongBooks() {
		for _, l := range [][]diff.Change{nil, {quoted}, {{}}, {quoted, quoted}, {{4, 9, 0, values(1), nil}}, {{5, 0, 0, values(wrong.Count), values(5)}}} {
			refused(t, wrong, l, api.ErrArg)
		}
	}
	// ErrForm stands ahead of ErrNone and of what the book becomes, wherever the change stands.
	for _, l := range [][]diff.Change{
		{{4, 9, 0, values(1), nil}, {4, 9, 0, values(1), nil}}, {{4, 9, 0, values(43), nil}, {}}, {{1, 1, 0, values(1, 1, 1), nil}, {4, 9, 0, values(43), nil}, {5, 0, 0, nil, values(3)}},
	} {
		refused(t, sample(), l, api.ErrForm)
	}
}

// P14.2: a book patched by none is like itself, whether a list is nil or empty.
func TestPatchByNone(t *testing.T) {
	for _, p := range pairs()[:40] {
		for _, l := range [][]diff.Change{nil, {}} {
			if b, e := diff.Patch(p[0], l); e != api.OK || !book.Same(b, p[0]) {
				t.Errorf("%s, error %d, not %s", brief(b), e, brief(p[0]))
			}
		}
	}
	b := api.Book{Holders: []api.Holder{}, Stakes: []api.Stake{}, Opens: []api.Open{}, Rates: []api.Rate{}}
	if l, e := diff.Diff(b, api.Book{}); e != api.OK || len(l) != 0 {
		t.Errorf("%v, error %d", l, e)
	}
	if c, e := diff.Patch(b, []diff.Change{{List: 4, A: 5, Was: []int64{}, Is: values(1)}}); e != api.OK || !book.Same(c, api.Book{Rates: []api.Rate{{Sym: 5, Price: 1}}}) {
		t.Errorf("%v, error %d", c, e)
	}
}

// touched gives changes like these, but for one thing.
func touched(l []diff.Change, below func(int) int) []diff.Change {
	l = diff.Turn(diff.Turn(l))
	if len(l) == 0 {
		return []diff.Change{quoted}
	}
	c := &l[below(len(l))]
	number := edges()[below(23)]
	switch below(9) {
	case 0:
		c.List = below(7)
	case 1:
		c.A = number
	case 2:
		c.B = number
	case 3:
		c.Was = nil
	case 4:
		c.Is = nil
	case 5:
		if len(c.Was) > 0 {
			c.Was[below(len(c.Was))] = number
		}
	case 6:
		if len(c.Is) > 0 {
			c.Is[below(len(c.Is))] = number
		}
	case 7:
		i := below(len(l))
		l = slices.Delete(l, i, i+1)
	case 8:
		c.Was, c.Is = c.Is, c.Was
	}
	return l
}

// P14.2: of diffs that are touched Patch tells what the chapter's words say.
func TestTouchedChanges(t *testing.T) {
	below := chance(97)
	var seen [13]int
	for _, p := range pairs() {
		l := wantedDiff(p[0], p[1])
		if len(l) > 200 {
			continue
		}
		for range 40 {
			some := touched(l, below)
			if below(3) == 0 {
				some = touched(some, below)
			}
			seen[asWorded(t, p[0], some)]++
		}
	}
	for _, e := range []api.Errno{api.OK, api.ErrArg, api.ErrForm, api.ErrNone} {
		if seen[e] < 300 {
			t.Errorf("error %d only %d times", e, seen[e])
		}
	}
}

// Rule 1: many changes are gone through, and then the book has too many things.
func TestManyChanges(t *testing.T) {
	var l []diff.Change
	for i := range int64(200000) {
		l = append(l, diff.Change{List: 2, A: i / 1000, B: i % 1000, Is: values(i + 1)})
	}
	refused(t, sample(), l, api.ErrNone)
	refused(t, api.Book{}, l, api.ErrArg)
	for i := range l {
		l[i] = diff.Change{List: 4, A: int64(i), Is: values(1)}
	}
	refused(t, api.Book{}, l, api.ErrArg)
	refused(t, api.Book{}, append(l, l[0]), api.ErrForm)
}
