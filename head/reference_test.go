package head_test

import (
	"crypto/sha256"
	"encoding/binary"
	"math"
	"testing"

	"engross/api"
	"engross/head"
)

// What the package is held against: the chapter's words, over numbers and digests of the library.

// cuts are numbers of bytes that digests may have, and wrongCuts others.
var (
	cuts      = []int{1, 2, 3, 20, 31, 32}
	wrongCuts = []int{0, -1, 33, 34, 64, 1 << 32, 1<<32 + 1, math.MinInt, math.MaxInt}
)

// mostNumber is the most of all numbers but Count.
const mostNumber = 1 << 40

// row gives a text of n bytes, other ones of each seed.
func row(seed string, n int) string {
	sum := sha256.Sum256([]byte(seed))
	return string(append(sum[:], sum[:]...)[:n])
}

// cut gives the digest of s, cut to n bytes.
func cut(s string, n int) string {
	sum := sha256.Sum256([]byte(s))
	return string(sum[:n])
}

// framed gives a row's bytes.
func framed(s string) string { return string(binary.AppendUvarint(nil, uint64(len(s)))) + s }

// written gives a header's bytes.
func written(h api.Head) string {
	var out []byte
	for _, n := range []int{h.Index, h.First, h.Count, h.Bytes} {
		out = binary.AppendUvarint(out, uint64(n))
	}
	return string(out) + framed(h.Prev) + framed(h.Root)
}

// mayBe tells whether a header may be.
func mayBe(h api.Head, n int) bool {
	return n >= 1 && n <= 32 && h.Index >= 0 && h.Index <= mostNumber && h.First >= 0 && h.First <= mostNumber && h.Count >= 1 && h.Count <= 64 && h.Bytes >= 0 && h.Bytes <= mostNumber && len(h.Prev) == n && len(h.Root) == n
}

// number reads a number from s, and tells what stands behind it.
func number(s string, most uint64) (uint64, string, api.Errno) {
	// The library asks for no more than that a number fits, not for its last digit, and takes ten digits that go on for too few.
	n, size := binary.Uvarint([]byte(s[:min(len(s), 11)]))
	switch {
	case size < 0, size == 0 && len(s) >= 10, size > 1 && s[size-1] == 0:
		return 0, "", api.ErrForm
	case size == 0:
		return 0, "", api.ErrShort
	case n > most:
		return 0, "", api.ErrMany
	}
	return n, s[size:], api.OK
}

// wanted gives what Get tells of s.
func wanted(s string, n int) (api.Head, api.Errno) {
	if n < 1 || n > 32 {
		return api.Head{}, api.ErrArg
	}
	var numbers [4]int
	for i, most := range []uint64{mostNumber, mostNumber, 64, mostNumber} {
		got, rest, e := number(s, most)
		if e != api.OK {
			return api.Head{}, e
		}
		numbers[i], s = int(got), rest
	}
	var rows [2]string
	for i := range rows {
		size, rest, e := number(s, uint64(n))
		switch {
		case e != api.OK:
			return api.Head{}, e
		case len(rest) < int(size):
			return api.Head{}, api.ErrShort
		}
		rows[i], s = rest[:size], rest[size:]
	}
	h := api.Head{Index: numbers[0], First: numbers[1], Count: numbers[2], Bytes: numbers[3], Prev: rows[0], Root: rows[1]}
	if s != "" || !mayBe(h, n) {
		return api.Head{}, api.ErrForm
	}
	return h, api.OK
}

// chained gives what Chain tells of l.
func chained(l []api.Head, n int) (string, api.Errno) {
	if n < 1 || n > 32 {
		return "", api.ErrArg
	}
	hashes := []string{cut("", n)}
	for i, h := range l {
		if !mayBe(h, n) || h.Index != i || i == 0 && h.First != 0 || i > 0 && h.First != l[i-1].First+l[i-1].Count || h.Prev != hashes[i] {
			return "", api.ErrChain
		}
		hashes = append(hashes, cut(written(h), n))
	}
	return hashes[len(l)], api.OK
}

// gets fails where Get doesn't tell of s what the words say; it tells whether that is a header.
func gets(t *testing.T, s string, n int) bool {
	t.Helper()
	h, e := wanted(s, n)
	if got, f := head.Get(s, n); got != h || f != e {
		t.Errorf("Get of %.80q, %d: %v, error %d, not %v, error %d", s, n, got, f, h, e)
	}
	return e == api.OK
}

// refused fails where Get doesn't tell just this error of s.
func refused(t *testing.T, s string, n int, e api.Errno) {
	t.Helper()
	if got, f := head.Get(s, n); got != (api.Head{}) || f != e {
		t.Errorf("Get of %.80q, %d: %v, error %d, not error %d", s, n, got, f, e)
	}
}

// chains fails where Chain doesn't tell of l what the words say; it tells whether they chain.
func chains(t *testing.T, l []api.Head, n int) bool {
	t.Helper()
	hash, e := chained(l, n)
	if got, f := head.Chain(l, n); got != hash || f != e {
		t.Errorf("Chain of %.400v, %d: %x, error %d, not %x, error %d", l, n, got, f, hash, e)
	}
	return e == api.OK
}

// field points to one of the four numbers of a header, by its place in the bytes.
func field(h *api.Head, place int) *int {
	return []*int{&h.Index, &h.First, &h.Count, &h.Bytes}[place]
}

// text points to one of the two rows of a header, likewise.
func text(h *api.Head, place int) *string { return []*string{&h.Prev, &h.Root}[place] }

// edges are numbers at the ends of what may be, of what fits, and of each length of a number's bytes.
func edges() []int {
	list := []int{0, 1, 2, 63, 64, 65, 66, -1, -2, -64, mostNumber - 1, mostNumber, mostNumber + 1, -mostNumber, 1<<32 - 1, 1 << 32, 1<<32 + 1, math.MaxInt, math.MinInt, math.MinInt + 1}
	for shift := 7; shift < 63; shift += 7 {
		edge := 1 << shift
		list = append(list, edge-1, edge, edge+1, -edge, -edge-1)
	}
	return list
}

// proper is a header that may be.
func proper(n int) api.Head {
	return api.Head{Index: 1, First: 300, Count: 2, Bytes: 5, Prev: row("prev", n), Root: row("root", n)}
}

// samples are headers, some of which may be with n: each edge at each number alone and at all, rows of other lengths, and some of all sizes.
func samples(n int) []api.Head {
	list := []api.Head{{}, proper(n)}
	for _, edge := range edges() {
		all := proper(n)
		for place := range 4 {
			alone := proper(n)
			*field(&alone, place), *field(&all, place) = edge, edge
			list = append(list, alone)
		}
		list = append(list, all)
	}
	for _, size := range []int{0, 1, n - 1, n + 1, 32, 33, 64} {
		for place := range 2 {
			h := proper(n)
			*text(&h, place) = row("other", size)
			list = append(list, h)
		}
		h := proper(n)
		h.Prev, h.Root = row("prev", size), row("root", size)
		list = append(list, h)
	}
	x := uint64(8)
	next := func(below int) int {
		x = x*6364136223846793005 + 1442695040888963407
		return int(x >> 20 % uint64(below))
	}
	for range 200 {
		list = append(list, api.Head{Index: next(1 << next(41)), First: next(1 << next(41)), Count: 1 + next(64), Bytes: next(1 << next(41)), Prev: row("prev", n), Root: row("root", n)})
	}
	return list
}
