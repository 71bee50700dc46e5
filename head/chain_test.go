package head_test

import (
	"math"
	"slices"
	"strings"
	"testing"

	"engross/api"
	"engross/head"
)

// P8.2: the digest of a header's bytes, of any header, whatever length of digests its rows have.
func TestHashOfAnyHeaders(t *testing.T) {
	for _, own := range []int{1, 4, 32} {
		for _, h := range samples(own) {
			for n := 1; n <= 32; n++ {
				if got, want := head.Hash(h, n), cut(written(h), n); got != want {
					t.Errorf("Hash of %v, %d: %x, not %x", h, n, got, want)
				}
			}
			for _, n := range wrongCuts {
				if got := head.Hash(h, n); got != "" {
					t.Errorf("Hash of %v, %d: %x", h, n, got)
				}
			}
		}
	}
	h := api.Head{Index: -1, Prev: strings.Repeat("p", 100000), Root: strings.Repeat("r", 1<<20)}
	if got, want := head.Hash(h, 32), cut(written(h), 32); got != want {
		t.Errorf("Hash of a header with long rows: %x, not %x", got, want)
	}
}

// P8.2: the digest of nothing.
func TestFirst(t *testing.T) {
	const nothing = "\xe3\xb0\xc4\x42\x98\xfc\x1c\x14\x9a\xfb\xf4\xc8\x99\x6f\xb9\x24\x27\xae\x41\xe4\x64\x9b\x93\x4c\xa4\x95\x99\x1b\x78\x52\xb8\x55"
	for n := 1; n <= 32; n++ {
		if got := head.First(n); got != nothing[:n] {
			t.Errorf("First(%d): %x", n, got)
		}
		if got, e := head.Chain(nil, n); got != nothing[:n] || e != api.OK {
			t.Errorf("Chain of none, %d: %x, error %d", n, got, e)
		}
		if got, e := head.Chain([]api.Head{}, n); got != nothing[:n] || e != api.OK {
			t.Errorf("Chain of an empty list, %d: %x, error %d", n, got, e)
		}
	}
	for _, n := range wrongCuts {
		if got := head.First(n); got != "" {
			t.Errorf("First(%d): %x", n, got)
		}
	}
}

// grown gives so many headers, each of which hangs on the one ahead as it should; change changes each one, but for that, as it likes.
func grown(count, n int, change func(i int, h *api.Head)) []api.Head {
	var l []api.Head
	next := api.Head{Prev: cut("", n)}
	for i := range count {
		h := next
		h.Count, h.Bytes, h.Root = 1+(7*i+3)%64, 1000*i, row(string(rune(i)), n)
		change(i, &h)
		l = append(l, h)
		next = api.Head{Index: h.Index + 1, First: h.First + h.Count, Prev: cut(written(h), n)}
	}
	return l
}

// asTheyAre changes nothing.
func asTheyAre(int, *api.Head) {}

// P8.2: headers that chain, each of whose beginnings chains, too.
func TestChainOfHeadersThatChain(t *testing.T) {
	for n := 1; n <= 32; n++ {
		l := grown(12, n, asTheyAre)
		for count := range len(l) + 1 {
			if !chains(t, l[:count], n) {
				t.Errorf("the first %d of %d don't chain with %d", count, len(l), n)
			}
		}
		for i := range l {
			if got, e := head.Chain(l[:i+1], n); e != api.OK || got != head.Hash(l[i], n) {
				t.Errorf("Chain isn't the last one's hash: %x, error %d", got, e)
			}
		}
	}
	if l := grown(20000, 32, asTheyAre); !chains(t, l, 32) {
		t.Error("a long list doesn't chain")
	}
	edge := func(_ int, h *api.Head) { h.Count, h.Bytes = 64, 1<<40 }
	if l := grown(5, 8, edge); !chains(t, l, 8) {
		t.Error("headers at the edges of what may be don't chain")
	}
}

// P8.2: a wrong length of digests is told ahead of all else.
func TestChainOfWrongCuts(t *testing.T) {
	for _, n := range wrongCuts {
		for _, l := range [][]api.Head{nil, {{}}, grown(3, 32, asTheyAre), {proper(33)}} {
			if got, e := head.Chain(l, n); got != "" || e != api.ErrArg {
				t.Errorf("Chain of %d headers, %d: %x, error %d", len(l), n, got, e)
			}
		}
	}
	for _, n := range []int{1, 3, 31} {
		if l := grown(3, 32, asTheyAre); chains(t, l, n) {
			t.Errorf("headers of 32 chain with %d", n)
		}
	}
}

// P8.2: each rule broken alone, at each place: what stands behind hangs on what is there.
func TestChainOfOneBrokenRule(t *testing.T) {
	const count = 6
	breaks := map[string]func(n int, h *api.Head){
		"Index above":    func(_ int, h *api.Head) { h.Index++ },
		"Index below":    func(_ int, h *api.Head) { h.Index-- },
		"Index far":      func(_ int, h *api.Head) { h.Index += 1 << 32 },
		"First above":    func(_ int, h *api.Head) { h.First++ },
		"First below":    func(_ int, h *api.Head) { h.First-- },
		"First far":      func(_ int, h *api.Head) { h.First += 1 << 32 },
		"First too far":  func(_ int, h *api.Head) { h.First = math.MaxInt },
		"Prev":           func(n int, h *api.Head) { h.Prev = h.Prev[:n-1] + string([]byte{h.Prev[n-1] ^ 1}) },
		"Prev's first":   func(_ int, h *api.Head) { h.Prev = string([]byte{h.Prev[0] ^ 128}) + h.Prev[1:] },
		"Prev longer":    func(_ int, h *api.Head) { h.Prev += "\x00" },
		"Prev shorter":   func(n int, h *api.Head) { h.Prev = h.Prev[:n-1] },
		"Root longer":    func(_ int, h *api.Head) { h.Root += "r" },
		"Root shorter":   func(n int, h *api.Head) { h.Root = h.Root[:n-1] },
		"Count none":     func(_ int, h *api.Head) { h.Count = 0 },
		"Count below":    func(_ int, h *api.Head) { h.Count = -1 },
		"Count above":    func(_ int, h *api.Head) { h.Count = 65 },
		"Bytes below":    func(_ int, h *api.Head) { h.Bytes = -1 },
		"Bytes above":    func(_ int, h *api.Head) { h.Bytes = 1<<40 + 1 },
		"Bytes far away": func(_ int, h *api.Head) { h.Bytes = math.MinInt },
	}
	for _, n := range cuts {
		for name, change := range breaks {
			for at := range count {
				l := grown(count, n, func(i int, h *api.Head) {
					if i == at {
						change(n, h)
					}
				})
				for last := at; last < count; last++ {
					if got, e := head.Chain(l[:last+1], n); got != "" || e != api.ErrChain {
						t.Errorf("%s of the header %d of %d, %d: %x, error %d", name, at, last+1, n, got, e)
					}
				}
				if !chains(t, l[:at], n) {
					t.Errorf("%s of the header %d, %d: those ahead don't chain", name, at, n)
				}
			}
		}
	}
}

// P8.2: one field of a chain's header is another one: all behind it hangs on what it was.
func TestChainOfAHeaderThatIsTouched(t *testing.T) {
	const count = 5
	for _, n := range cuts {
		l := grown(count, n, asTheyAre)
		for at := range count {
			for place := range 6 {
				other := slices.Clone(l)
				if place < 4 {
					*field(&other[at], place) ^= 1
				} else {
					*text(&other[at], place-4) = row("other", n)
				}
				for last := range count {
					chains(t, other[:last+1], n)
				}
				// With a digest of so many bytes only Count, Bytes and Root of the last header aren't told by others.
				if got, e := head.Chain(other, n); n >= 20 && (at < count-1 || place < 2 || place == 4) && (got != "" || e != api.ErrChain) {
					t.Errorf("field %d of the header %d is another one: %x, error %d", place, at, got, e)
				}
			}
		}
	}
}

// P8.2: headers that lack, stand twice, or stand in another order.
func TestChainOfOtherOrders(t *testing.T) {
	for _, n := range cuts {
		l := grown(5, n, asTheyAre)
		wrong := [][]api.Head{l[1:], l[4:]}
		for i := range l {
			if i < len(l)-1 {
				wrong = append(wrong, slices.Concat(l[:i], l[i+1:]))
			}
			wrong = append(wrong, slices.Concat(l[:i+1], l[i:]), slices.Concat(l[:i], []api.Head{{}}, l[i:]))
			for k := range i {
				swapped := slices.Clone(l)
				swapped[i], swapped[k] = swapped[k], swapped[i]
				wrong = append(wrong, swapped)
			}
		}
		backwards := slices.Clone(l)
		slices.Reverse(backwards)
		for _, other := range append(wrong, backwards) {
			if chains(t, other, n) {
				t.Errorf("%v chains with %d", other, n)
			}
		}
	}
}

// Rule 5: what is handed in stays as it is, its spare room too.
func TestChainChangesNothing(t *testing.T) {
	l := append(grown(6, 16, asTheyAre), proper(3))
	was := slices.Clone(l)
	for count := range l {
		head.Chain(l[:count], 16)
		head.Chain(l[:count], 0)
	}
	if !slices.Equal(l, was) {
		t.Error("Chain changed its list")
	}
}
