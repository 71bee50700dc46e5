package diff_test

import (
	"slices"
	"testing"

	"engross/api"
	"engross/book"
	"engross/diff"
)

// spare gives a list in memory of its own, with other things behind it.
func spare[T any](l []T, other T) []T {
	room := append(slices.Clone(l), other, other, other)
	return room[:len(l)]
}

// roomy gives a book like b whose lists have spare room.
func roomy(b api.Book) api.Book {
	return api.Book{
		Holders: spare(b.Holders, api.Holder{Id: 77}),
		Stakes:  spare(b.Stakes, api.Stake{Acc: 77}),
		Opens:   spare(b.Opens, api.Open{Id: 77}),
		Rates:   spare(b.Rates, api.Rate{Sym: 77}),
		Count:   b.Count,
	}
}

// wholes gives a book whose lists have their spare room, too.
func wholes(b api.Book) api.Book {
	return api.Book{
		Holders: b.Holders[:cap(b.Holders)],
		Stakes:  b.Stakes[:cap(b.Stakes)],
		Opens:   b.Opens[:cap(b.Opens)],
		Rates:   b.Rates[:cap(b.Rates)],
		Count:   b.Count,
	}
}

// roomyChanges gives changes like these with spare room, those of their values too.
func roomyChanges(l []diff.Change) []diff.Change {
	var room []diff.Change
	for _, c := range l {
		room = append(room, diff.Change{List: c.List, A: c.A, B: c.B, Was: spare(c.Was, 77), Is: spare(c.Is, 78)})
	}
	return spare(room, quoted)
}

// wholeChanges gives changes that have their spare room, too, in memory of their own.
func wholeChanges(l []diff.Change) []diff.Change {
	l = slices.Clone(l[:cap(l)])
	for i, c := range l {
		l[i].Was, l[i].Is = slices.Clone(c.Was[:cap(c.Was)]), slices.Clone(c.Is[:cap(c.Is)])
	}
	return l
}

// spoil writes over all of a book, its spare room too.
func spoil(b api.Book) {
	b = wholes(b)
	for i := range b.Holders {
		b.Holders[i] = api.Holder{Id: -77}
	}
	for i := range b.Stakes {
		b.Stakes[i] = api.Stake{Acc: -77}
	}
	for i := range b.Opens {
		b.Opens[i] = api.Open{Id: -77}
	}
	for i := range b.Rates {
		b.Rates[i] = api.Rate{Sym: -77}
	}
}

// spoilValues writes over all values of changes, their spare room too.
func spoilValues(l []diff.Change) {
	for _, c := range l {
		for _, v := range [][]int64{c.Was[:cap(c.Was)], c.Is[:cap(c.Is)]} {
			for i := range v {
				v[i] = -77
			}
		}
	}
}

// Rule 5: Diff leaves what is handed in as it was, its spare room too, and its changes share nothing, with it or with each other.
func TestMemoryOfDiff(t *testing.T) {
	for _, p := range pairs()[:60] {
		a, b := roomy(p[0]), roomy(p[1])
		l, _ := diff.Diff(a, b)
		again, _ := diff.Diff(a, b)
		if !book.Same(wholes(a), wholes(roomy(p[0]))) || !book.Same(wholes(b), wholes(roomy(p[1]))) {
			t.Fatalf("Diff changed %s or %s", brief(p[0]), brief(p[1]))
		}
		spoil(a)
		spoil(b)
		want := wantedDiff(p[0], p[1])
		for i := range l {
			spoilValues(l[i : i+1])
			if !alike(l[i+1:], want[i+1:]) {
				t.Fatalf("changes share memory: %s", brief(l))
			}
		}
		if !alike(again, want) {
			t.Fatalf("two answers share memory: %s", brief(again))
		}
	}
	b := book.SetRate(api.Book{}, api.Rate{Sym: 5, Price: 1})
	b = book.SetHolder(b, api.Holder{Id: 5})
	l, _ := diff.Diff(b, book.SetHolder(book.SetRate(b, api.Rate{Sym: 5, Price: 2}), api.Holder{Id: 5, Cash: 1}))
	spoilValues([]diff.Change{{Was: l[0].Was}, {Is: l[1].Is}})
	if !slices.Equal(l[0].Is, values(1, 0, 0)) || !slices.Equal(l[1].Was, values(1)) {
		t.Errorf("Was and Is share memory: %v", l)
	}
}

// Rule 5: Patch and Turn leave what is handed in as it was, and share nothing with it.
func TestMemoryOfPatchAndTurn(t *testing.T) {
	for _, p := range pairs()[:60] {
		want := wantedDiff(p[0], p[1])
		a, l := roomy(p[0]), roomyChanges(want)
		b, _ := diff.Patch(a, l)
		again, _ := diff.Patch(a, l)
		turned := diff.Turn(l)
		diff.Same(l, turned)
		if !book.Same(wholes(a), wholes(roomy(p[0]))) || !alike(wholeChanges(l), wholeChanges(roomyChanges(want))) {
			t.Fatalf("Patch or Turn changed %s or %s", brief(p[0]), brief(want))
		}
		spoil(a)
		spoilValues(l)
		clear(l[:cap(l)])
		if !book.Same(b, p[1]) {
			t.Fatalf("Patch shares memory with what was handed in: %s", brief(b))
		}
		spoil(b)
		if !book.Same(again, p[1]) {
			t.Fatalf("two answers share memory: %s", brief(again))
		}
		back := wantedDiff(p[1], p[0])
		for i := range turned {
			spoilValues([]diff.Change{{Was: turned[i].Was}})
			if !alike(turned[i+1:], back[i+1:]) || !slices.Equal(turned[i].Is, back[i].Is) {
				t.Fatalf("Turn shares memory: %s", brief(turned))
			}
		}
	}
}

// Rule 5: a turned change's empty list lies in memory of its own.
func TestMemoryOfEmptyValues(t *testing.T) {
	room := values(1, 2, 3)
	l := diff.Turn([]diff.Change{{List: 4, Was: room[:0], Is: room[1:1]}})
	_, _ = append(l[0].Was, 9), append(l[0].Is, 9)
	if !slices.Equal(room, values(1, 2, 3)) {
		t.Errorf("what was handed in is now %v", room)
	}
}
