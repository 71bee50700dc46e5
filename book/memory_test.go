package book_test

import (
	"slices"
	"testing"

	"engross/api"
	"engross/book"
)

// whole gives a list with its spare room.
func whole[T any](l []T) []T { return l[:cap(l)] }

// wholes gives a book whose lists have their spare room, too.
func wholes(b api.Book) api.Book {
	return api.Book{Holders: whole(b.Holders), Stakes: whole(b.Stakes), Opens: whole(b.Opens), Rates: whole(b.Rates), Count: b.Count}
}

// spoil writes over all of a book, its spare room too.
func spoil(b api.Book) {
	b = wholes(b)
	for i := range b.Holders {
		b.Holders[i] = api.Holder{Id: -77}
	}
	for i := range b.Stakes {
		b.Stakes[i] = api.Stake{Acc: -77}
	}
	for i := range b.Opens {
		b.Opens[i] = api.Open{Id: -77}
	}
	for i := range b.Rates {
		b.Rates[i] = api.Rate{Sym: -77}
	}
}

// calls are all that give a book of another.
func calls() []func(b api.Book) api.Book {
	l := []func(b api.Book) api.Book{book.Copy}
	for _, key := range []int64{-9, -4, -1, 2, 3, 99} {
		for _, n := range []int64{0, 5} {
			for _, s := range append(settings(key, 3, n), settings(key, 99, n)...) {
				l = append(l, s.call)
			}
		}
	}
	return l
}

// P12.1, P12.2: a book that is answered shares nothing with the one that it is of, nor with another answer, nor is that changed, its spare room neither.
func TestAnswersShareNothing(t *testing.T) {
	cut := func(b api.Book) api.Book {
		b.Holders, b.Stakes, b.Opens, b.Rates = b.Holders[:2], b.Stakes[:2], b.Opens[:2], b.Rates[:2]
		return b
	}
	none := func(b api.Book) api.Book {
		b.Holders, b.Stakes, b.Opens, b.Rates = b.Holders[:0], b.Stakes[:0], b.Opens[:0], b.Rates[:0]
		return b
	}
	asItIs := func(b api.Book) api.Book { return b }
	for i, call := range calls() {
		for j, part := range []func(b api.Book) api.Book{asItIs, cut, none} {
			room := twin(sample())
			had := twin(wholes(room))
			first, second := call(part(room)), call(part(room))
			if !alike(wholes(room), had) {
				t.Fatalf("the call %d of the book %d changed it", i, j)
			}
			want := twin(first)
			spoil(second)
			if !alike(first, want) || !alike(wholes(room), had) {
				t.Fatalf("the second answer of the call %d of the book %d shares memory", i, j)
			}
			spoil(room)
			if !alike(first, want) {
				t.Fatalf("the call %d of the book %d shares memory with it", i, j)
			}
		}
	}
}

// By the rule of totality: of books whose lists don't rise every call ends, and changes nothing.
func TestBooksThatDoNotRise(t *testing.T) {
	below, all := chance(6), books()
	for range 3000 {
		b := twin(all[below(len(all))])
		for range 1 + below(4) {
			touch(&b, edges()[below(len(edges()))], below)
		}
		if below(2) == 0 {
			slices.Reverse(b.Holders)
			slices.Reverse(b.Stakes)
			slices.Reverse(b.Opens)
			slices.Reverse(b.Rates)
		}
		had := twin(b)
		a, c := edges()[below(len(edges()))], edges()[below(len(edges()))]
		book.Holder(b, a)
		book.Open(b, a)
		book.Rate(b, a)
		book.Stake(b, a, c)
		asWorded(t, b)
		for _, s := range settings(a, c, int64(below(2))) {
			first, second := s.call(b), s.call(b)
			if !alike(first, second) {
				t.Fatalf("of %s came %s and %s", brief(b), brief(first), brief(second))
			}
			if n := len(first.Holders) - len(b.Holders); n < 0 || n > 1 {
				t.Fatalf("of %s came %s", brief(b), brief(first))
			}
		}
		if !alike(b, had) {
			t.Fatalf("%s was changed to %s", brief(had), brief(b))
		}
	}
}
