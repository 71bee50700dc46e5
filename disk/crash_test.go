package disk_test

import (
	"bytes"
	"math"
	"math/rand"
	"slices"
	"strings"
	"testing"

	"engross/api"
	"engross/disk"
)

// The example of chapter 9.
func TestExampleOfTheChapter(t *testing.T) {
	d, _ := disk.New(9)
	d.Write("a", 0, "xyz")
	d.Write("a", 3, "pq")
	d.Crash(func(i int) int { return i })
	if l := d.Files(); !slices.Equal(l, []api.File{{Name: "a", Bytes: "\x00\x00\x00p"}}) {
		t.Errorf("%q", l)
	}
}

// P9.3: each pending write is asked for once, rising; none else is.
func TestCrashAsksOnce(t *testing.T) {
	for count := range 6 {
		d, _ := disk.New(99)
		d.Write("k", 0, "kept")
		d.Sync()
		for i := range count {
			d.Write("ab"[i%2:i%2+1], 0, "xyz")
		}
		var got, want []int
		for i := range count {
			want = append(want, i)
		}
		if e := d.Crash(func(i int) int { got = append(got, i); return 1 }); e != api.OK || !slices.Equal(got, want) {
			t.Errorf("of %d writes were asked for %v, error %d", count, got, e)
		}
		got = nil
		if e := d.Crash(func(i int) int { got = append(got, i); return 1 }); e != api.OK || got != nil {
			t.Errorf("behind a crash were asked for %v, error %d", got, e)
		}
	}
}

// chosen are numbers of bytes at the edges: of none, of some, of all of three, and of more.
var chosen = []int{math.MinInt, -1, 0, 1, 2, 3, 4, math.MaxInt}

// P9.3: three writes, of each of which each number is chosen: they lie over each other, behind each other, in another file.
func TestCrashOfEachChoice(t *testing.T) {
	rows := [][3]wish{
		{{"a", 0, "xyz"}, {"a", 3, "pqr"}, {"a", 6, "uvw"}},
		{{"a", 0, "xyz"}, {"a", 1, "pqr"}, {"a", 0, "uvw"}},
		{{"a", 0, "xyz"}, {"b", 0, "pqr"}, {"a", 3, "uvw"}},
		{{"k", 4, "xyz"}, {"k", 2, "pqr"}, {"k", 7, "uvw"}},
		{{"k", 1, "xyz"}, {"k", 4, "pqr"}, {"b", 0, "uvw"}},
		{{"c", 0, "xyz"}, {"b", 0, "pqr"}, {"a", 0, "uvw"}},
	}
	for _, row := range rows {
		for i := range len(chosen) * len(chosen) * len(chosen) {
			choice := [3]int{chosen[i%len(chosen)], chosen[i/len(chosen)%len(chosen)], chosen[i/len(chosen)/len(chosen)]}
			d, m := made(t, []api.File{{Name: "k", Bytes: "kept"}}, 13)
			for _, w := range row {
				if got, want := d.Write(w.name, w.at, w.s), m.write(w.name, w.at, w.s); got != want || got != api.OK {
					t.Errorf("Write %v: error %d, not %d", w, got, want)
				}
			}
			choose := func(i int) int { return choice[i] }
			d.Crash(choose)
			m.crash(choose)
			if !alike(t, d, m, []string{"a", "b", "c", "k"}) {
				t.Errorf("%v, chosen %v", row, choice)
			}
			if !slices.Equal(d.Files(), d.Kept()) || !disk.May(d.Files()) || d.Pending() != 0 {
				t.Errorf("%v, chosen %v: stand %q, kept %q", row, choice, d.Files(), d.Kept())
			}
		}
	}
}

// P9.3: behind a crash a disk goes on as one that has just these files.
func TestGoesOnBehindACrash(t *testing.T) {
	r := rand.New(rand.NewSource(9))
	for range 300 {
		d, m := made(t, nil, 12)
		for range 5 {
			once(r, d, m, t)
		}
		d.Crash(func(i int) int { return i })
		m.crash(func(i int) int { return i })
		other, e := disk.Of(d.Files(), 12)
		if e != api.OK {
			t.Fatalf("Of %q: error %d", d.Files(), e)
		}
		n := &model{room: 12, kept: m.kept}
		seed := r.Int63()
		for _, x := range []struct {
			d *disk.Disk
			m *model
		}{{d, m}, {other, n}} {
			again := rand.New(rand.NewSource(seed))
			for range 10 {
				once(again, x.d, x.m, t)
			}
		}
		if !slices.Equal(d.Files(), other.Files()) || !slices.Equal(d.Kept(), other.Kept()) {
			t.Errorf("stand %q and %q, kept %q and %q", d.Files(), other.Files(), d.Kept(), other.Kept())
		}
	}
}

var someNames = []string{"a", "b", "c0", "z", "", "B"}

// once does one thing to the disk and to its model, by chance.
func once(r *rand.Rand, d *disk.Disk, m *model, t *testing.T) {
	t.Helper()
	name := someNames[r.Intn(len(someNames))]
	var got, want api.Errno
	switch k := r.Intn(12); {
	case k < 8:
		at, s := r.Intn(6)-1, strings.Repeat(string(rune('0'+r.Intn(10))), r.Intn(5))
		got, want = d.Write(name, at, s), m.write(name, at, s)
	case k == 8:
		got, want = d.Sync(), m.sync()
	case k == 9:
		n := r.Intn(5) - 1
		got, want = d.Cut(name, n), m.cut(name, n)
	case k == 10:
		l := r.Perm(20)
		choose := func(i int) int { return l[i%20]%7 - 1 }
		got, want = d.Crash(choose), m.crash(choose)
	}
	if got != want {
		t.Errorf("error %d, not %d", got, want)
	}
	alike(t, d, m, someNames)
}

// P9.2, P9.3: long rows of all calls, with rooms that are soon full.
func TestLongRowsOfCalls(t *testing.T) {
	for seed := range int64(200) {
		r := rand.New(rand.NewSource(seed))
		d, m := made(t, nil, r.Intn(25))
		for range 200 {
			once(r, d, m, t)
		}
		if t.Failed() {
			t.Fatalf("of the seed %d", seed)
		}
	}
}

// P9.4: what was synced is there behind any crash, but where a pending write lies over it.
func TestSyncedIsThere(t *testing.T) {
	r := rand.New(rand.NewSource(4))
	for range 2000 {
		d, _ := disk.New(64)
		for range 6 {
			b := d.Read("f")
			d.Write("f", r.Intn(len(b)+1), strings.Repeat("s", 1+r.Intn(5)))
		}
		d.Sync()
		synced := []byte(d.Read("f"))
		over := make([]bool, 128)
		for range r.Intn(4) {
			at, n := r.Intn(len(d.Read("f"))+1), 1+r.Intn(5)
			if d.Write("f", at, strings.Repeat("p", n)) == api.OK {
				for i := at; i < at+n; i++ {
					over[i] = true
				}
			}
		}
		d.Write("g", 0, "other")
		d.Crash(func(int) int { return r.Intn(8) - 1 })
		left := []byte(d.Read("f"))
		if len(left) < len(synced) {
			t.Fatalf("%q of %q", left, synced)
		}
		for i := range synced {
			if left[i] != synced[i] && !(over[i] && left[i] == 'p') {
				t.Fatalf("%q of %q", left, synced)
			}
		}
	}
}

// P9.4: however often it crashes, with nothing pending nothing goes.
func TestCrashOfNothing(t *testing.T) {
	d, m := made(t, []api.File{{Name: "a", Bytes: "xyz"}, {Name: "b", Bytes: "\x00"}}, 5)
	for range 5 {
		if e := d.Crash(func(int) int { return 0 }); e != api.OK {
			t.Errorf("error %d", e)
		}
		alike(t, d, m, []string{"a", "b"})
	}
}

// P9.3: a disk that is asked, or written on, while it is chosen tells what it was; the crash is of that alone.
func TestChooseThatUsesTheDisk(t *testing.T) {
	uses := map[string]func(d *disk.Disk){
		"asks":   func(d *disk.Disk) { d.Files() },
		"writes": func(d *disk.Disk) { d.Write("n", 0, "new") },
		"over":   func(d *disk.Disk) { d.Write("k", 0, "NEW") },
		"syncs":  func(d *disk.Disk) { d.Sync(); d.Cut("a", 1); d.Write("b", 0, "1234567") },
		"cuts":   func(d *disk.Disk) { d.Sync(); d.Cut("k", 0) },
		"crash":  func(d *disk.Disk) { d.Crash(func(int) int { return 9 }); d.Cut("k", 0); d.Write("a", 0, "12345") },
	}
	for name, do := range uses {
		d, m := made(t, []api.File{{Name: "k", Bytes: "kept"}}, 12)
		for _, w := range []wish{{"a", 0, "xyz"}, {"k", 2, "pqr"}, {"a", 3, "uv"}} {
			d.Write(w.name, w.at, w.s)
			m.write(w.name, w.at, w.s)
		}
		asked := 0
		e := d.Crash(func(i int) int {
			if i == 0 && (!slices.Equal(d.Files(), m.stand()) || !slices.Equal(d.Kept(), m.kept) || d.Pending() != 3) {
				t.Errorf("%s: stand %q, kept %q", name, d.Files(), d.Kept())
			}
			asked++
			do(d)
			return 2
		})
		m.crash(func(int) int { return 2 })
		if !alike(t, d, m, []string{"a", "b", "k", "n"}) || e != api.OK || asked != 3 {
			t.Errorf("%s: asked %d times, error %d", name, asked, e)
		}
	}
}

// P9.3: no call panics, so a choice that does is ErrArg, and nothing has crashed.
func TestChooseThatPanics(t *testing.T) {
	for at := range 2 {
		d, m := made(t, []api.File{{Name: "k", Bytes: "kept"}}, 9)
		for _, w := range []wish{{"a", 0, "xyz"}, {"k", 2, "pq"}} {
			d.Write(w.name, w.at, w.s)
			m.write(w.name, w.at, w.s)
		}
		e := d.Crash(func(i int) int {
			if i == at {
				panic("no choice")
			}
			return 1
		})
		if e != api.ErrArg {
			t.Errorf("error %d", e)
		}
		alike(t, d, m, []string{"a", "k"})
	}
}

// P9.2, P9.3: as many bytes as a disk can have, one by one; the time that this takes grows no faster than they do.
func TestBytesOneByOne(t *testing.T) {
	d, _ := disk.New(1 << 20)
	for i := range 1 << 20 {
		if e := d.Write("ab"[i%2:i%2+1], i/2, "xyz"[i%3:i%3+1]); e != api.OK {
			t.Fatalf("the byte %d: error %d", i, e)
		}
		if i%4 == 3 {
			d.Sync()
		}
	}
	if e := d.Write("a", 1<<19, "x"); e != api.ErrFull {
		t.Errorf("one byte too many: error %d", e)
	}
	want := bytes.Repeat([]byte("xzy"), 1<<18)[:1<<19]
	if d.Read("a") != string(want) || d.Room() != 0 {
		t.Error("a isn't what was written")
	}
}
