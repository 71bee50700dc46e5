package clash_test

import (
	"math"
	"slices"
	"strconv"
	"strings"
	"testing"
	"unsafe"

	"engross/api"
	"engross/clash"
)

// call is Find or Chain.
type call func(a, b []string, n int) (string, string, api.Errno)

// seek is a call, what it is held against, and what is hashed for the first text of a thing, alone.
type seek struct {
	name  string
	call  call
	down  func(texts []string, n int) []string
	alone func(s string, n int) string
}

// seeks are both calls.
func seeks() []seek {
	return []seek{
		{"Find", clash.Find, downRow, func(s string, n int) string { return "\x00" + s }},
		{"Chain", clash.Chain, downChain, func(s string, n int) string { return row(digest("", n)) + row(s) }},
	}
}

// first gives what tells what is hashed for a thing of one text.
func (s seek) first(n int) func(text string) string {
	return func(text string) string { return s.alone(text, n) }
}

// behind gives what tells what is hashed last for a chain of a further text behind some.
func behind(texts []string, n int) func(text string) string {
	h := digest(downChain(texts, n)[0], n)
	return func(text string) string { return row(h) + row(text) }
}

// told fails where the call tells something else of a and b.
func (s seek) told(t *testing.T, a, b []string, n int, x, y string, e api.Errno) {
	t.Helper()
	gotX, gotY, got := s.call(a, b, n)
	if gotX != x || gotY != y || got != e {
		t.Errorf("%s of %d and %d texts, %d: %.40q %.40q %d, not %.40q %.40q %d", s.name, len(a), len(b), n, gotX, gotY, got, x, y, e)
	}
	if e == api.OK && !clashes(gotX, gotY, n) {
		t.Errorf("%s of %d texts, %d: %.40q and %.40q don't clash", s.name, len(a), n, gotX, gotY)
	}
}

// numbered gives count texts that are all unlike.
func numbered(count int) []string {
	texts := make([]string, count)
	for i := range texts {
		texts[i] = "text " + strconv.Itoa(i)
	}
	return texts
}

// with gives the texts with s in the place k.
func with(texts []string, k int, s string) []string {
	out := slices.Clone(texts)
	out[k] = s
	return out
}

// P4.1 and P4.2: what is told of any two things of few texts, with digests of one byte, which often are alike.
func TestClashOfAnyTwoThings(t *testing.T) {
	for _, s := range seeks() {
		some := append(alphabet(16, s.first(1)), "", "\x00", "\x01")
		found := 0
		for count := range 12 {
			all := mixed(count, 70, some)
			for _, a := range all {
				for _, b := range all {
					x, y, e := wanted(a, b, 1, s.down)
					s.told(t, a, b, 1, x, y, e)
					if e == api.OK {
						found++
					}
				}
			}
		}
		if found < 1000 {
			t.Errorf("%s: %d clashes are too few to tell", s.name, found)
		}
	}
}

// P4.1 and P4.2: one text is another, of one digest of some bytes, in each place; a's bytes come first.
func TestClashInEachPlace(t *testing.T) {
	for _, n := range []int{1, 2, 3} {
		u, v := twins(n, seeks()[0].first(n))
		for count := 1; count < 20; count++ {
			texts := numbered(count)
			for k := range texts {
				a, b := with(texts, k, u), with(texts, k, v)
				seeks()[0].told(t, a, b, n, "\x00"+u, "\x00"+v, api.OK)
				seeks()[0].told(t, b, a, n, "\x00"+v, "\x00"+u, api.OK)
				last := behind(texts[:k], n)
				p, q := twins(n, last)
				a, b = with(texts, k, p), with(texts, k, q)
				seeks()[1].told(t, a, b, n, last(p), last(q), api.OK)
				seeks()[1].told(t, b, a, n, last(q), last(p), api.OK)
			}
		}
	}
}

// P4.1: of two clashes in a row of leaves the first side's is told, of two in a chain the later one.
func TestWhichClashIsTold(t *testing.T) {
	u, v := twins(2, seeks()[0].first(2))
	p, q := twins(2, func(s string) string { return "\x00x" + s })
	p, q = "x"+p, "x"+q
	texts := numbered(13)
	for k := range texts {
		for j := range k {
			a, b := with(with(texts, j, u), k, p), with(with(texts, j, v), k, q)
			seeks()[0].told(t, a, b, 2, "\x00"+u, "\x00"+v, api.OK)
		}
	}
	u, v = twins(2, seeks()[1].first(2))
	for k := 1; k < len(texts); k++ {
		a, b := with(texts, 0, u), with(texts, 0, v)
		last := behind(a[:k], 2)
		p, q := twins(2, last)
		seeks()[1].told(t, with(a, k, p), with(b, k, q), 2, last(p), last(q), api.OK)
	}
}

// P4.1: nodes of unlike sides, and links of unlike beginnings, that have one digest, are told, though further down there is a clash as well.
func TestClashAboveOthers(t *testing.T) {
	pair := func(s string) []string { return []string{"p" + s, "q"} }
	node := func(s string) string { return downRow(pair(s), 2)[0] }
	u, v := twins(2, node)
	texts := numbered(4)
	for _, count := range []int{0, 4} {
		seeks()[0].told(t, slices.Concat(texts[:count], pair(u)), slices.Concat(texts[:count], pair(v)), 2, node(u), node(v), api.OK)
		seeks()[0].told(t, slices.Concat(pair(u), texts[:count/2]), slices.Concat(pair(v), texts[:count/2]), 2, node(u), node(v), api.OK)
	}
	link := func(s string) string { return downChain(pair(s), 2)[0] }
	u, v = twins(2, link)
	seeks()[1].told(t, slices.Concat(pair(u), texts), slices.Concat(pair(v), texts), 2, link(u), link(v), api.OK)
}

// P4.1: the chapter's examples.
func TestChapterExamples(t *testing.T) {
	f := seeks()[0]
	f.told(t, []string{"a", "b"}, []string{"a", "b"}, 32, "", "", api.ErrNone)
	a, b := twins(1, f.first(1))
	f.told(t, []string{a}, []string{b}, 1, "\x00"+a, "\x00"+b, api.OK)
}

// P4.1: as many texts as there may be, with a clash in the first place and in the last one; a chain is gone down all its way, in a time that doesn't grow by the square.
func TestClashOfAsManyAsMayBe(t *testing.T) {
	texts := numbered(api.MaxLeaves)
	for _, n := range []int{3, 2} {
		u, v := twins(n, seeks()[0].first(n))
		for _, k := range []int{0, 1, 2047, 2048, 4094, 4095} {
			seeks()[0].told(t, with(texts, k, u), with(texts, k, v), n, "\x00"+u, "\x00"+v, api.OK)
		}
		for _, k := range []int{0, 1, 2048, 4095} {
			last := behind(texts[:k], n)
			p, q := twins(n, last)
			seeks()[1].told(t, with(texts, k, p), with(texts, k, q), n, last(p), last(q), api.OK)
		}
	}
	for _, s := range seeks() {
		s.told(t, texts, slices.Clone(texts), 32, "", "", api.ErrNone)
		s.told(t, texts, with(texts, 4095, "x"), 32, "", "", api.ErrTwin)
	}
}

// P4.1: texts of many lengths, where how many bytes they have takes one byte, two or three.
func TestClashOfLongTexts(t *testing.T) {
	for _, s := range seeks() {
		for _, size := range []int{0, 60, 120, 127, 128, 300, 16380, 16384, api.MaxRow + 1} {
			long := func(text string) string { return strings.Repeat("l", size) + text }
			u, v := twins(2, func(text string) string { return s.alone(long(text), 2) })
			a, b := []string{long(u), long("z")}, []string{long(v), long("z")}
			s.told(t, a, b, 2, s.alone(long(u), 2), s.alone(long(v), 2), api.OK)
		}
	}
}

// P4.1: with each length that a digest may have alike things have no clash, and unlike ones no digest but a short one.
func TestEachLength(t *testing.T) {
	for _, s := range seeks() {
		for n := 1; n <= 32; n++ {
			for count := range 6 {
				texts := numbered(count)
				s.told(t, texts, slices.Clone(texts), n, "", "", api.ErrNone)
				if count == 0 {
					continue
				}
				other := with(texts, count/2, "other")
				x, y, e := wanted(texts, other, n, s.down)
				if n > 4 && e != api.ErrTwin {
					t.Fatal("these texts have a clash of", n, "bytes")
				}
				s.told(t, texts, other, n, x, y, e)
			}
		}
		s.told(t, nil, nil, 1, "", "", api.ErrNone)
		s.told(t, nil, []string{}, 32, "", "", api.ErrNone)
		s.told(t, []string{}, nil, 32, "", "", api.ErrNone)
	}
}

// P4.1: of another n ErrArg, ahead of all else.
func TestOtherLengthsAreRefused(t *testing.T) {
	more := make([]string, api.MaxLeaves+1)
	for _, s := range seeks() {
		for _, n := range []int{0, -1, -32, 33, 34, 64, 1 << 32, 1<<32 + 1, math.MaxInt, math.MinInt} {
			for _, a := range [][]string{nil, {"a"}, {"a", "b"}, more} {
				for _, b := range [][]string{nil, {"a"}, {"b"}, more} {
					s.told(t, a, b, n, "", "", api.ErrArg)
				}
			}
		}
	}
}

// P4.1: of more texts than there may be ErrMany, whichever has them, whether they are alike or not.
func TestTooManyAreRefused(t *testing.T) {
	more := make([]string, api.MaxLeaves+1)
	for _, s := range seeks() {
		for _, other := range [][]string{nil, {"a"}, more[1:], more, with(more, 5, "x"), append(numbered(1), more...)} {
			s.told(t, more, other, 1, "", "", api.ErrMany)
			s.told(t, other, more, 32, "", "", api.ErrMany)
		}
		s.told(t, more[1:], more[1:], 1, "", "", api.ErrNone)
	}
}

// P4.1: of things that aren't as many ErrTwin, though they have one digest; of things that are, and haven't one, too.
func TestThingsThatAreNoTwins(t *testing.T) {
	for _, s := range seeks() {
		whole := func(texts ...string) string { return digest(s.down(texts, 1)[0], 1) }
		for count := range 10 {
			texts := numbered(count)
			more := append(slices.Clone(texts), "")
			for i := 0; whole(more...) != whole(texts...); i++ {
				more[0], more[count] = "x"+strconv.Itoa(i), "y"+strconv.Itoa(i)
			}
			s.told(t, texts, more, 1, "", "", api.ErrTwin)
			s.told(t, more, texts, 1, "", "", api.ErrTwin)
			s.told(t, texts, more, 32, "", "", api.ErrTwin)
			s.told(t, with(more, count, "x"), with(more, count, "y"), 32, "", "", api.ErrTwin)
		}
		s.told(t, []string{"a", "b"}, []string{"b", "a"}, 32, "", "", api.ErrTwin)
		s.told(t, []string{"ab", ""}, []string{"a", "b"}, 32, "", "", api.ErrTwin)
	}
}

// Rules 5 and 6: what is handed in stays as it was, its spare room too, and the same is told again, in new memory, also where no more than a leaf's mark is told.
func TestArgumentsStayAndAnswersAreNew(t *testing.T) {
	for _, s := range seeks() {
		for k := range 6 {
			twin := twinOf("", s.first(1))
			if s.name == "Chain" {
				twin = twinOf("", behind(numbered(k), 1))
			}
			a, b := with(numbered(6), k, ""), with(numbered(6), k, twin)
			allA, allB := append(a, "room"), append(b, "to spare")
			keptA, keptB := slices.Clone(allA), slices.Clone(allB)
			x, y, e := s.call(allA[:6], allB[:6], 1)
			againX, againY, again := s.call(allA[:6], allB[:6], 1)
			if e != api.OK || again != e || x != againX || y != againY {
				t.Errorf("%s: %q %q %d, then %q %q %d", s.name, x, y, e, againX, againY, again)
			}
			if !slices.Equal(allA, keptA) || !slices.Equal(allB, keptB) {
				t.Errorf("%s: an argument was changed", s.name)
			}
			seen := map[*byte]bool{}
			for _, text := range slices.Concat(allA, allB, []string{x, y, againX, againY}) {
				at := unsafe.StringData(text)
				if text != "" && seen[at] {
					t.Errorf("%s: %q lies where another text does", s.name, text)
				}
				seen[at] = true
			}
		}
	}
}
