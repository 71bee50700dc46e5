package head_test

import (
	"math"
	"strings"
	"testing"
	"unsafe"

	"engross/api"
	"engross/head"
)

// P8.1: what may be is from the least to the most of each field, and nothing beyond.
func TestMayOfTheEdges(t *testing.T) {
	may := func(want bool, n int, change func(h *api.Head)) {
		t.Helper()
		h := proper(n)
		change(&h)
		if head.May(h, n) != want {
			t.Errorf("May of %v, %d: %v", h, n, !want)
		}
	}
	for _, n := range cuts {
		may(true, n, func(h *api.Head) {})
		for place, ends := range [][2]int{{0, 1 << 40}, {0, 1 << 40}, {1, 64}, {0, 1 << 40}} {
			for _, edge := range ends {
				may(true, n, func(h *api.Head) { *field(h, place) = edge })
			}
			for _, other := range []int{ends[0] - 1, ends[1] + 1, math.MinInt, math.MaxInt, -ends[1]} {
				may(false, n, func(h *api.Head) { *field(h, place) = other })
			}
		}
		for place := range 2 {
			for _, size := range []int{0, n - 1, n + 1, 64} {
				may(false, n, func(h *api.Head) { *text(h, place) = row("x", size) })
			}
		}
		may(true, n, func(h *api.Head) {
			*h = api.Head{Count: 1, Prev: strings.Repeat("\x00", n), Root: strings.Repeat("\xff", n)}
		})
	}
}

// P8.1: May of any headers, with lengths of digests that may be and that may not.
func TestMayOfAnyHeaders(t *testing.T) {
	yes := 0
	for _, own := range cuts {
		for _, h := range samples(own) {
			for _, n := range append(cuts, wrongCuts...) {
				want := mayBe(h, n)
				if want {
					yes++
				}
				if head.May(h, n) != want {
					t.Errorf("May of %v, %d: %v", h, n, !want)
				}
			}
		}
	}
	if yes < 1000 {
		t.Errorf("only %d may be", yes)
	}
}

// P8.1: no header may be with a wrong length of digests, even where its rows have that length.
func TestMayOfWrongCuts(t *testing.T) {
	for _, n := range []int{0, 33, 34, 64} {
		if h := proper(n); head.May(h, n) {
			t.Errorf("May of %v, %d", h, n)
		}
	}
}

// P8.1: the bytes written out.
func TestPutWrittenOut(t *testing.T) {
	for _, x := range []struct {
		h api.Head
		s string
	}{
		{api.Head{}, "\x00\x00\x00\x00\x00\x00"},
		{api.Head{Index: 1, First: 300, Count: 2, Bytes: 5, Prev: "pp", Root: "rr"}, "\x01\xac\x02\x02\x05\x02pp\x02rr"},
		{api.Head{Index: 127, First: 128, Count: 64, Bytes: 16384, Prev: "", Root: "\x00"}, "\x7f\x80\x01\x40\x80\x80\x01\x00\x01\x00"},
		{api.Head{Index: 1 << 40, First: 1<<40 - 1, Count: 1}, "\x80\x80\x80\x80\x80\x20\xff\xff\xff\xff\xff\x1f\x01\x00\x00\x00"},
		{api.Head{Index: -1, First: -2, Count: math.MinInt, Bytes: math.MaxInt}, "\xff\xff\xff\xff\xff\xff\xff\xff\xff\x01" + "\xfe\xff\xff\xff\xff\xff\xff\xff\xff\x01" + "\x80\x80\x80\x80\x80\x80\x80\x80\x80\x01" + "\xff\xff\xff\xff\xff\xff\xff\xff\x7f" + "\x00\x00"},
		{api.Head{Prev: strings.Repeat("p", 200), Root: strings.Repeat("r", 128)}, "\x00\x00\x00\x00\xc8\x01" + strings.Repeat("p", 200) + "\x80\x01" + strings.Repeat("r", 128)},
	} {
		if got := head.Put(x.h); got != x.s {
			t.Errorf("Put of %v: %q, not %q", x.h, got, x.s)
		}
	}
}

// P8.1: the bytes of any headers, those below 0 and those that may not be, too.
func TestPutOfAnyHeaders(t *testing.T) {
	for _, n := range cuts {
		for _, h := range samples(n) {
			if got, s := head.Put(h), written(h); got != s {
				t.Errorf("Put of %v: %q, not %q", h, got, s)
			}
		}
	}
}

// P8.1: a wrong length of digests is told ahead of all.
func TestGetOfWrongCuts(t *testing.T) {
	for _, n := range wrongCuts {
		for _, s := range []string{"", "\x80\x00", written(proper(0)), written(proper(33)), written(proper(64)), written(proper(2)) + "\x00"} {
			refused(t, s, n, api.ErrArg)
		}
	}
}

// P8.1: headers that are written well, but may not be.
func TestGetOfWhatMayNotBe(t *testing.T) {
	for _, n := range cuts {
		h := proper(n)
		h.Count = 0
		refused(t, written(h), n, api.ErrForm)
		for place := range 2 {
			for _, size := range []int{0, n - 1} {
				h := proper(n)
				*text(&h, place) = row("x", size)
				refused(t, written(h), n, api.ErrForm)
			}
			h := proper(n)
			*text(&h, place) = row("x", n+1)
			refused(t, written(h), n, api.ErrMany)
		}
		for place, most := range []int{1 << 40, 1 << 40, 64, 1 << 40} {
			for _, over := range []int{most + 1, 1<<40 + 1, math.MaxInt, -1, math.MinInt} {
				h := proper(n)
				*field(&h, place) = over
				refused(t, written(h), n, api.ErrMany)
			}
		}
	}
}

// P8.1: bytes that end too soon, at each place, and more bytes behind.
func TestGetOfFewerAndMoreBytes(t *testing.T) {
	for _, n := range cuts {
		s := written(proper(n))
		for end := range s {
			refused(t, s[:end], n, api.ErrShort)
		}
		for b := range 256 {
			refused(t, s+string([]byte{byte(b)}), n, api.ErrForm)
		}
		refused(t, s+s, n, api.ErrForm)
		refused(t, s+strings.Repeat("\xff", 100), n, api.ErrForm)
	}
}

// P8.1: of several faults the first from the left, and those of the whole header behind all of them.
func TestGetTellsTheFirstFault(t *testing.T) {
	number := []string{"\x00", "\x80\x80\x80\x80\x80\x20", "\x81\x80\x80\x80\x80\x20", "\x80\x00", strings.Repeat("\xff", 9) + "\x02"}
	count := []string{"\x00", "\x01", "\x40", "\x41", "\xff\x00"}
	for _, n := range []int{1, 3, 32} {
		rows := []string{"\x00", framed(row("a", n)), framed(row("b", n-1)), framed(row("c", n+1)), "\x80\x00", "\x81\x80\x80\x80\x80\x20", "\x01"}
		good := 0
		all := [][]string{number, number, count, number, rows, rows, {"", "\x00", "\x80"}}
		var put func(s string, left [][]string)
		put = func(s string, left [][]string) {
			if len(left) > 0 {
				for _, piece := range left[0] {
					put(s+piece, left[1:])
				}
			} else if gets(t, s, n) {
				good++
			}
		}
		put("", all)
		if good < 2*2*2*2 {
			t.Errorf("only %d of these are headers of %d", good, n)
		}
	}
}

// P8.1, P8.3: of all texts of up to eight telling bytes, headers are got of just those that are one's bytes.
func TestGetOfAllShortTexts(t *testing.T) {
	texts, count := []string{""}, 0
	for i := 0; i < len(texts); i++ {
		s := texts[i]
		if len(s) < 8 {
			for _, b := range []byte{0, 1, 64, 65, 129} {
				texts = append(texts, s+string([]byte{b}))
			}
		}
		if gets(t, s, 1) {
			count++
		}
		gets(t, s, 2)
	}
	if count < 1000 {
		t.Errorf("only %d of the texts are headers", count)
	}
}

// P8.3: what is put is got again, just if it may be.
func TestWhatIsPutIsGot(t *testing.T) {
	for _, n := range cuts {
		count := 0
		for _, h := range samples(n) {
			got, e := head.Get(head.Put(h), n)
			switch {
			case !mayBe(h, n):
				if got != (api.Head{}) || e == api.OK {
					t.Errorf("Get of the bytes of %v, %d: %v, error %d", h, n, got, e)
				}
			case got != h || e != api.OK:
				t.Errorf("Get of the bytes of %v, %d: %v, error %d", h, n, got, e)
			default:
				count++
			}
		}
		if count < 200 {
			t.Errorf("only %d of these may be with %d", count, n)
		}
	}
}

// P8.3: nothing else is got: of bytes with one byte other, more or less, only the header that is put so.
func TestNothingElseIsGot(t *testing.T) {
	for _, n := range cuts {
		for _, h := range samples(n)[1:40] {
			s := written(h)
			for i := range len(s) + 1 {
				near := []string{s[:max(i-1, 0)] + s[i:]}
				for _, b := range []byte{0, 1, 2, byte(n), byte(n + 1), 63, 64, 65, 127, 128, 129, 254, 255} {
					one := string([]byte{b})
					near = append(near, s[:i]+one+s[i:], s[:i]+one+s[min(i+1, len(s)):])
				}
				for _, other := range near {
					gets(t, other, n)
					if got, e := head.Get(other, n); e == api.OK && head.Put(got) != other {
						t.Errorf("Get of %q, %d: %v, whose bytes are %q", other, n, got, head.Put(got))
					}
				}
			}
		}
	}
}

// Rule 5: texts that are told are new memory, each for itself.
func TestTextsAreNewMemory(t *testing.T) {
	s := written(proper(32))
	a, _ := head.Get(s, 32)
	b, _ := head.Get(s, 32)
	c, _ := head.Chain(nil, 32)
	d, _ := head.Chain(nil, 32)
	seen := map[uintptr]bool{}
	from := uintptr(unsafe.Pointer(unsafe.StringData(s)))
	for _, got := range []string{a.Prev, a.Root, b.Prev, b.Root, c, d, head.First(32), head.First(32), head.Hash(a, 32), head.Hash(a, 32), head.Put(a), head.Put(a)} {
		at := uintptr(unsafe.Pointer(unsafe.StringData(got)))
		if at >= from && at < from+uintptr(len(s)) || seen[at] {
			t.Errorf("%.20q lies where another text does", got)
		}
		seen[at] = true
	}
}
