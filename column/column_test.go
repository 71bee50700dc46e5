package column_test

import (
	"math"
	"slices"
	"strings"
	"testing"

	"engross/api"
	"engross/column"
)

// The example of chapter 11.
func TestExampleOfTheChapter(t *testing.T) {
	l := []int64{5, 6, 7, 7}
	s := "\x04" + "\x0a\x01" + "\x02\x02" + "\x00\x01"
	if got, e := column.Put(l); got != s || e != api.OK {
		t.Errorf("Put: %q, error %d", got, e)
	}
	if got := column.Runs(l); !slices.Equal(got, [][2]int64{{5, 1}, {1, 2}, {0, 1}}) {
		t.Errorf("Runs: %d", got)
	}
	told(t, s, 4, l, len(s), api.OK)
}

// P11.1: the runs, as long as may be, of the differences, which go round.
func TestRuns(t *testing.T) {
	const least, greatest = math.MinInt64, math.MaxInt64
	for _, x := range []struct {
		l    []int64
		want [][2]int64
	}{
		{nil, nil},
		{[]int64{}, nil},
		{[]int64{0}, [][2]int64{{0, 1}}},
		{[]int64{-9}, [][2]int64{{-9, 1}}},
		{[]int64{0, 0, 0}, [][2]int64{{0, 3}}},
		{[]int64{5, 5, 5}, [][2]int64{{5, 1}, {0, 2}}},
		{[]int64{2, 4, 6}, [][2]int64{{2, 3}}},
		{[]int64{-2, -4, -6}, [][2]int64{{-2, 3}}},
		{[]int64{1, 3, 4, 6}, [][2]int64{{1, 1}, {2, 1}, {1, 1}, {2, 1}}},
		{[]int64{1, 1, 2, 3, 3, 4}, [][2]int64{{1, 1}, {0, 1}, {1, 2}, {0, 1}, {1, 1}}},
		{[]int64{greatest, least}, [][2]int64{{greatest, 1}, {1, 1}}},
		{[]int64{least, greatest}, [][2]int64{{least, 1}, {-1, 1}}},
		{[]int64{least, 0, least, 0}, [][2]int64{{least, 4}}},
		{[]int64{greatest, -2, greatest - 2}, [][2]int64{{greatest, 3}}},
		{[]int64{greatest, -1}, [][2]int64{{greatest, 1}, {least, 1}}},
		{[]int64{-1, greatest, -1}, [][2]int64{{-1, 1}, {least, 2}}},
	} {
		if got := column.Runs(x.l); !slices.Equal(got, x.want) {
			t.Errorf("Runs of %d: %d, not %d", x.l, got, x.want)
		}
	}
	for _, l := range columns() {
		if got, want := column.Runs(l), runsOf(l); !slices.Equal(got, want) {
			t.Errorf("Runs of %d numbers, %d: %d runs, not %d", len(l), l[:min(9, len(l))], len(got), len(want))
		}
	}
}

// P11.1: the runs of more numbers than may be put.
func TestRunsOfLongLists(t *testing.T) {
	for _, want := range [][][2]int64{{{3, mostNumbers + 1}}, {{-1, 1}, {0, 1 << 20}}, {{1, 1 << 19}, {-1, 1 << 19}, {7, 1}}} {
		l := columnOf(want...)
		if got := column.Runs(l); !slices.Equal(got, want) {
			t.Errorf("Runs of %d numbers: %d, not %d", len(l), got, want)
		}
	}
	apart := make([]int64, 1<<18)
	for i := range apart {
		apart[i] = int64(i) * int64(i)
	}
	// Of squares the differences are 0, 1, 3, 5 ..
	for i, run := range column.Runs(apart) {
		if want := [2]int64{max(0, 2*int64(i)-1), 1}; run != want {
			t.Fatalf("the run %d: %d, not %d", i, run, want)
		}
	}
	if n := len(column.Runs(apart)); n != len(apart) {
		t.Errorf("%d runs", n)
	}
}

// P11.1: how many numbers, then of each run its difference and how many.
func TestPutGivesTheRunsInOrder(t *testing.T) {
	for s, l := range map[string][]int64{
		"\x00":                         nil,
		"\x01\x00\x01":                 {0},
		"\x01\x01\x01":                 {-1},
		"\x03\x02\x03":                 {1, 2, 3},
		"\x03\x05\x01\x00\x02":         {-3, -3, -3},
		"\x02\xd8\x04\x01\xd7\x04\x01": {300, 0},
		"\xac\x02\x00\xac\x02":         make([]int64, 300),
		"\x02" + strings.Repeat("\xff", 9) + "\x01\x02":                                                                {math.MinInt64, 0},
		"\x02" + "\xfe" + strings.Repeat("\xff", 8) + "\x01\x01" + "\x02\x01":                                          {math.MaxInt64, math.MinInt64},
		"\x03" + "\x01\x01" + strings.Repeat("\xff", 9) + "\x01\x01" + "\xfe" + strings.Repeat("\xff", 8) + "\x01\x01": {-1, math.MaxInt64, -2},
	} {
		if got, e := column.Put(l); got != s || e != api.OK {
			t.Errorf("Put of %d: %q, error %d, not %q", l[:min(9, len(l))], got, e, s)
		}
	}
	for _, l := range columns() {
		if got, e := column.Put(l); got != putOf(l) || e != api.OK {
			t.Errorf("Put of %d numbers, %d: %.30q, error %d, not %.30q", len(l), l[:min(9, len(l))], got, e, putOf(l))
		}
	}
}

// P11.1: as many numbers as may be, and more.
func TestPutOfTooMany(t *testing.T) {
	if s, e := column.Put(make([]int64, mostNumbers)); s != "\x80\x80\x04\x00\x80\x80\x04" || e != api.OK {
		t.Errorf("Put of the most numbers: %.30q, error %d", s, e)
	}
	for _, size := range []int{mostNumbers + 1, mostNumbers + 2, 1<<17 - 1, 1 << 17, 1<<17 + 1, 1 << 22} {
		for _, l := range [][]int64{make([]int64, size), slices.Repeat([]int64{1, 5, 2, 9}, size/4+1)[:size]} {
			if s, e := column.Put(l); s != "" || e != api.ErrMany {
				t.Errorf("Put of %d numbers: %.30q, error %d", size, s, e)
			}
		}
	}
}

// P11.3: what is put is got again, with whatever stands behind it, and with no more numbers than may be.
func TestWhatIsPutIsGot(t *testing.T) {
	for _, l := range columns() {
		s, e := column.Put(l)
		if e != api.OK {
			t.Fatalf("Put of %d numbers: error %d", len(l), e)
		}
		behinds := []string{"", "\x00", "\x80", "\x80\x00", "\xff\xff", "\x00\x01", s}
		if len(s) > 1000 {
			behinds = behinds[:3]
		}
		for _, behind := range behinds {
			for _, most := range []int{len(l), min(len(l)+1, mostNumbers), mostNumbers} {
				told(t, s+behind, most, l, len(s), api.OK)
			}
		}
	}
}

// P11.3: no two columns have the same bytes, nor bytes of which one's begin the other's.
func TestNoTwoColumnsHaveTheSameBytes(t *testing.T) {
	seen := map[string][]int64{}
	for _, a := range []int64{-2, -1, 0, 1, 2, math.MaxInt64, math.MinInt64} {
		for _, b := range []int64{-2, -1, 0, 1, 2, math.MaxInt64, math.MinInt64} {
			for _, c := range []int64{-2, -1, 0, 1, 2, math.MaxInt64, math.MinInt64} {
				for _, l := range [][]int64{{}, {a}, {a, b}, {a, b, c}, {a, b, c, a}} {
					s, _ := column.Put(l)
					if had, there := seen[s]; there && !slices.Equal(had, l) {
						t.Errorf("%d and %d: both %q", had, l, s)
					}
					seen[s] = l
				}
			}
		}
	}
	for s := range seen {
		for end := range s {
			if had, there := seen[s[:end]]; there {
				t.Errorf("%q, of %d, begin with those of %d", s, seen[s], had)
			}
		}
	}
}
