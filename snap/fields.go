package snap

import (
	"slices"

	"engross/api"
)

// field is a field of all things of a list: what tells its column, of at most so many numbers, and what takes one.
type field struct {
	most int
	tell func() []int64
	take func(column []int64) bool
}

// number reads and writes a field of a thing.
type number[T any] struct {
	read  func(thing *T) int64
	write func(thing *T, n int64)
}

// at gives the number that point points to. Side alone is an int.
func at[T any, N int | int64](point func(thing *T) *N) number[T] {
	return number[T]{
		read:  func(thing *T) int64 { return int64(*point(thing)) },
		write: func(thing *T, n int64) { *point(thing) = N(n) },
	}
}

// fields gives those of all lists of b, in the order of its bytes.
func fields(b *api.Book) []field {
	return slices.Concat(
		laid(&b.Holders, api.MaxAccounts,
			at(func(h *api.Holder) *int64 { return &h.Id }),
			at(func(h *api.Holder) *int64 { return &h.Cash }),
			at(func(h *api.Holder) *int64 { return &h.MaxPos }),
			at(func(h *api.Holder) *int64 { return &h.MaxOrder })),
		laid(&b.Stakes, api.MaxAccounts*api.MaxQuotes,
			at(func(s *api.Stake) *int64 { return &s.Acc }),
			at(func(s *api.Stake) *int64 { return &s.Sym }),
			at(func(s *api.Stake) *int64 { return &s.Qty })),
		laid(&b.Opens, api.MaxOrders,
			at(func(o *api.Open) *int64 { return &o.Id }),
			at(func(o *api.Open) *int64 { return &o.Acc }),
			at(func(o *api.Open) *int64 { return &o.Sym }),
			at(func(o *api.Open) *int { return &o.Side }),
			at(func(o *api.Open) *int64 { return &o.Left }),
			at(func(o *api.Open) *int64 { return &o.Price })),
		laid(&b.Rates, api.MaxQuotes,
			at(func(r *api.Rate) *int64 { return &r.Sym }),
			at(func(r *api.Rate) *int64 { return &r.Price })))
}

// laid lays a list of things as its fields. The first one's column says how many things there are; a further one is taken only if it has as many numbers.
func laid[T any](list *[]T, most int, numbers ...number[T]) []field {
	var l []field
	for i, n := range numbers {
		l = append(l, field{
			most: most,
			tell: func() []int64 { return told(*list, n) },
			take: func(column []int64) bool {
				if i == 0 {
					*list = make([]T, len(column))
				}
				return taken(*list, n, column)
			},
		})
	}
	return l
}

// told gives this number of each thing.
func told[T any](list []T, n number[T]) []int64 {
	column := make([]int64, len(list))
	for i := range list {
		column[i] = n.read(&list[i])
	}
	return column
}

// taken sets this number of each thing, and tells whether the column has as many.
func taken[T any](list []T, n number[T], column []int64) bool {
	if len(column) != len(list) {
		return false
	}
	for i := range list {
		n.write(&list[i], column[i])
	}
	return true
}
