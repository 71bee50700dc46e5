package gate_test

import (
	"slices"
	"testing"

	"engross/api"
	"engross/book"
	"engross/gate"
)

// spare gives a list in memory of its own, with other things behind it.
func spare[T any](l []T, other T) []T {
	room := append(slices.Clone(l), other, other, other)
	return room[:len(l)]
}

// roomy gives a book like b whose lists have spare room, in which other things lie.
func roomy(b api.Book) api.Book {
	return api.Book{
		Holders: spare(b.Holders, api.Holder{Id: 9, Cash: 77}),
		Stakes:  spare(b.Stakes, api.Stake{Acc: 1, Sym: 9, Qty: 77}),
		Opens:   spare(b.Opens, api.Open{Id: 9, Acc: 1, Sym: 3, Left: 77, Price: 77}),
		Rates:   spare(b.Rates, api.Rate{Sym: 9, Price: 77}),
		Count:   b.Count,
	}
}

// whole gives a list with its spare room.
func whole[T any](l []T) []T { return l[:cap(l)] }

// wholes gives a book whose lists have their spare room, too.
func wholes(b api.Book) api.Book {
	return api.Book{Holders: whole(b.Holders), Stakes: whole(b.Stakes), Opens: whole(b.Opens), Rates: whole(b.Rates), Count: b.Count}
}

// spoil writes over all of a book, its spare room too.
func spoil(b api.Book) {
	b = wholes(b)
	for i := range b.Holders {
		b.Holders[i] = api.Holder{Id: -77}
	}
	for i := range b.Stakes {
		b.Stakes[i] = api.Stake{Acc: -77}
	}
	for i := range b.Opens {
		b.Opens[i] = api.Open{Id: -77}
	}
	for i := range b.Rates {
		b.Rates[i] = api.Rate{Sym: -77}
	}
}

// Rules 5 and 6: what is handed in stays as it was, its spare room too; an answer shares nothing with it, nor with another answer; asked again a call answers the same.
func TestAnswersShareNothing(t *testing.T) {
	refused := []api.Event{{Kind: api.Account, Acc: 1}, {Kind: api.Limit, Acc: 9}, {Kind: api.Quote, Sym: 3}, {Kind: api.Order}, {Kind: api.Fill, Ord: 1}, {Kind: api.Cancel}}
	for _, e := range slices.Concat(events(), refused, []api.Event{{Kind: api.Fill, Ord: 7, Qty: 4, Price: 1}, {Kind: api.Fill, Ord: 8, Qty: 2, Price: 1}, {Kind: api.Quote, Sym: 9, Price: 1}}) {
		for _, like := range []api.Book{sample(), {}} {
			in, had := roomy(like), roomy(like)
			b1, v1, l1, e1 := gate.Step(in, e, 50)
			b2, v2, l2, e2 := gate.Step(in, e, 50)
			gate.Explain(in, e, 50)
			if !book.Same(wholes(in), wholes(had)) {
				t.Fatalf("%v changed the book", e)
			}
			if !book.Same(b1, b2) || v1 != v2 || !slices.Equal(l1, l2) || e1 != e2 {
				t.Fatalf("%v: another answer", e)
			}
			want := book.Copy(b2)
			spoil(b1)
			for i := range whole(l1) {
				whole(l1)[i] = api.Step{Rule: -77}
			}
			if !book.Same(wholes(in), wholes(had)) || !book.Same(b2, want) {
				t.Fatalf("%v: the answer shares memory", e)
			}
			spoil(in)
			if !book.Same(b2, want) {
				t.Fatalf("%v: the answer shares memory with the book", e)
			}
			if _, _, steps, _ := gate.Step(had, e, 50); !slices.Equal(l2, steps) {
				t.Fatalf("%v: the steps share memory", e)
			}
		}
	}
}
