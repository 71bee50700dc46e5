package head

import (
	"strings"

	"engross/api"
	"engross/nums"
)

// greatest is the most that a number of a header may be, but for Count.
const greatest = 1 << 40

// place is what a header is compared by in a chain: the header ahead alone tells what it must be.
type place struct {
	index, first int
	prev         string
}

// header is an api.Head, parted into its place and what it says of its own segment.
type header struct {
	place
	count, bytes int
	root         string
}

func parted(h api.Head) header {
	return header{place{h.Index, h.First, h.Prev}, h.Count, h.Bytes, h.Root}
}

func (h *header) whole() api.Head {
	return api.Head{Index: h.index, First: h.first, Count: h.count, Bytes: h.bytes, Prev: h.prev, Root: h.root}
}

// number points to one of a header's numbers, and says from what to what it may be.
type number struct {
	at          *int
	least, most uint64
}

// numbers are those of h, in the order of its bytes.
func (h *header) numbers() [4]number {
	return [...]number{
		{&h.index, 0, greatest},
		{&h.first, 0, greatest},
		{&h.count, 1, api.MaxPer},
		{&h.bytes, 0, greatest},
	}
}

// rows point to those of h, in the order of its bytes, behind the numbers.
func (h *header) rows() [2]*string { return [...]*string{&h.prev, &h.root} }

// may tells whether h may be; n may be.
func (h *header) may(n int) bool {
	for _, x := range h.numbers() {
		// A number below 0 goes round, and is above any most.
		if got := uint64(*x.at); got < x.least || got > x.most {
			return false
		}
	}
	for _, row := range h.rows() {
		if len(*row) != n {
			return false
		}
	}
	return true
}

// written gives the bytes of h.
func (h *header) written() string {
	var out strings.Builder
	for _, x := range h.numbers() {
		out.WriteString(nums.Num(uint64(*x.at)))
	}
	for _, row := range h.rows() {
		out.WriteString(nums.Row(*row))
	}
	return out.String()
}

// read gives the header that has the bytes s, and no others; n may be.
func read(s string, n int) (header, api.Errno) {
	var h header
	r := nums.Read(s)
	for _, x := range h.numbers() {
		// What is below least is told at the end, behind the faults of all that stands to the right.
		*x.at = int(r.Num(x.most))
	}
	for _, row := range h.rows() {
		*row = r.Row(n)
	}
	if r.Left() > 0 || !h.may(n) {
		// An earlier fault stays.
		r.Fail(api.ErrForm)
	}
	return h, r.Fault()
}

// behind gives the place of the header behind h.
func (h *header) behind(n int) place {
	return place{index: h.index + 1, first: h.first + h.count, prev: digest(h.written(), n)}
}
