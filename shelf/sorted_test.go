package shelf_test

import (
	"fmt"
	"maps"
	"math/rand"
	"slices"
	"testing"

	"engross/api"
	"engross/shelf"
)

func named(names ...string) []api.File {
	var l []api.File
	for _, s := range names {
		l = append(l, api.File{Name: s, Bytes: "b" + s})
	}
	return l
}

func sameLists(a, b map[int][]int) bool { return maps.EqualFunc(a, b, slices.Equal[[]int]) }

// P10.2: the numbers of each kind, as the files stand; a kind without files has no entry.
func TestSorted(t *testing.T) {
	for _, x := range []struct {
		files []api.File
		want  map[int][]int
	}{
		{nil, nil},
		{[]api.File{}, nil},
		{named(""), map[int][]int{0: {0}}},
		{[]api.File{{}}, map[int][]int{0: {0}}},
		{named("heads"), map[int][]int{3: {0}}},
		{named("heads", "heads"), map[int][]int{3: {0, 0}}},
		{named("s0"), map[int][]int{1: {0}}},
		{named("c0"), map[int][]int{2: {0}}},
		{named("s01", "c", "s"), map[int][]int{0: {0, 0, 0}}},
		{named("s7", "s007", "s70", "s7"), map[int][]int{1: {7, 70, 7}, 0: {0}}},
		{named("s3", "s1", "s2", "s10"), map[int][]int{1: {3, 1, 2, 10}}},
		{named("c9", "s9", "heads", "c10", "s10", "other", "c1"), map[int][]int{1: {9, 10}, 2: {9, 10, 1}, 3: {0}, 0: {0}}},
		{named("s1099511627776", "c1099511627776", "s1099511627777", "c18446744073709551616"), map[int][]int{1: {1 << 40}, 2: {1 << 40}, 0: {0, 0}}},
		{[]api.File{{Name: "s5"}, {Bytes: "s6"}, {Name: "S7", Bytes: "s7"}}, map[int][]int{1: {5}, 0: {0, 0}}},
	} {
		if got := shelf.Sorted(x.files); !sameLists(got, x.want) {
			t.Errorf("%q: %v, not %v", x.files, got, x.want)
		}
	}
}

// somefiles gives files by chance, of which many have names of a log.
func somefiles(r *rand.Rand) []api.File {
	var l []api.File
	for range r.Intn(40) {
		n := r.Intn(12)
		if r.Intn(4) == 0 {
			n = 1<<40 - 5 + r.Intn(10)
		}
		begin := []string{"s", "c", "s", "c", "x", "s0", "heads", ""}[r.Intn(8)]
		s := fmt.Sprintf("%s%d", begin, n)
		if begin == "heads" && n%2 == 0 {
			s = begin
		}
		l = append(l, api.File{Name: s, Bytes: "x"})
	}
	return l
}

// P10.2: of any files, also of such as no disk has: in no order, with names that come twice.
func TestSortedOfManyLists(t *testing.T) {
	r := rand.New(rand.NewSource(10))
	for range 3000 {
		files := somefiles(r)
		want := sorted(files)
		for range 2 {
			if got := shelf.Sorted(files); !sameLists(got, want) {
				t.Fatalf("%q: %v, not %v", files, got, want)
			}
		}
	}
}

// P10.2: a long list, each number at its place.
func TestSortedOfALongList(t *testing.T) {
	var files []api.File
	for i := range 1 << 18 {
		files = append(files, api.File{Name: []string{shelf.Segment(i), shelf.Column(i), "heads", "zz"}[i%4]})
	}
	got := shelf.Sorted(files)
	for i := range files {
		want := []int{i, i, 0, 0}[i%4]
		if l := got[[]int{1, 2, 3, 0}[i%4]]; len(l) != 1<<16 || l[i/4] != want {
			t.Fatalf("the file %d of %d", i, len(l))
		}
	}
}

// P10.2, by the rule of memory: the files are as they were, and no two lists of answers share memory.
func TestSortedGivesNewMemory(t *testing.T) {
	r := rand.New(rand.NewSource(2))
	for range 200 {
		room := append(somefiles(r), named("spare", "s77")...)
		had := slices.Clone(room)
		files := room[:len(room)-2]
		want := sorted(files)
		first, second := shelf.Sorted(files), shelf.Sorted(files)
		if !slices.Equal(room, had) {
			t.Fatalf("%q was changed to %q", had, room)
		}
		for kind, l := range first {
			whole := l[:cap(l)]
			for i := range whole {
				whole[i] = -1
			}
			delete(want, kind)
			for other, left := range want {
				if !slices.Equal(first[other], left) {
					t.Fatalf("the list of %d shares memory with that of %d", other, kind)
				}
			}
		}
		first[9] = []int{9}
		if !sameLists(second, sorted(files)) || !sameLists(shelf.Sorted(files), second) {
			t.Fatalf("an answer shares memory with another: %v", second)
		}
	}
}
