package disk_test

import (
	"fmt"
	"math"
	"strings"
	"testing"

	"engross/api"
	"engross/disk"
)

// wrongRooms are rooms that no disk has.
var wrongRooms = []int{-1, math.MinInt, 1<<20 + 1, 1 << 32, math.MaxInt}

// P9.1: a disk without files, of each room at the edges.
func TestNew(t *testing.T) {
	for _, room := range []int{0, 1, 9, 1<<20 - 1, 1 << 20} {
		d, e := disk.New(room)
		if e != api.OK || d == nil {
			t.Fatalf("New(%d): error %d", room, e)
		}
		alike(t, d, &model{room: room}, []string{"a", ""})
		if e := d.Write("a", 0, strings.Repeat("x", room+1)); e != api.ErrFull {
			t.Errorf("room %d: one byte too many: error %d", room, e)
		}
		if room > 0 {
			if e := d.Write("a", 0, strings.Repeat("x", room)); e != api.OK || d.Room() != 0 || d.Used() != room {
				t.Errorf("room %d: as many bytes: error %d", room, e)
			}
		}
	}
	for _, room := range wrongRooms {
		if d, e := disk.New(room); d != nil || e != api.ErrArg {
			t.Errorf("New(%d): %v, error %d", room, d, e)
		}
	}
}

// lists are files that may be, and such that may not.
func lists() [][]api.File {
	long := strings.Repeat("z", 16)
	out := [][]api.File{
		nil, {}, {{Name: "a", Bytes: "x"}}, {{Name: "0", Bytes: "\x00"}}, {{Name: "9z", Bytes: "\xff\x00"}},
		{{Name: long, Bytes: "xyz"}}, {{Name: long + "z", Bytes: "xyz"}}, {{Name: "", Bytes: "x"}}, {{Name: "a"}}, {{}},
		{{Name: "a", Bytes: "x"}, {Name: "b", Bytes: "y"}}, {{Name: "b", Bytes: "x"}, {Name: "a", Bytes: "y"}},
		{{Name: "a", Bytes: "x"}, {Name: "a", Bytes: "x"}}, {{Name: "a", Bytes: "x"}, {Name: "a", Bytes: "y"}},
		{{Name: "a", Bytes: "x"}, {Name: "aa", Bytes: "y"}}, {{Name: "aa", Bytes: "x"}, {Name: "a", Bytes: "y"}},
		{{Name: "9", Bytes: "x"}, {Name: "a", Bytes: "y"}}, {{Name: "a", Bytes: "x"}, {Name: "9", Bytes: "y"}},
		{{Name: "10", Bytes: "x"}, {Name: "9", Bytes: "y"}}, {{Name: "9", Bytes: "x"}, {Name: "10", Bytes: "y"}},
		{{Name: "a", Bytes: "x"}, {Name: "b"}, {Name: "c", Bytes: "y"}}, {{Name: "a", Bytes: "x"}, {Name: "c", Bytes: "y"}, {Name: "b", Bytes: "y"}},
		{{Name: "b", Bytes: "x"}, {Name: "a", Bytes: "y"}, {Name: "c", Bytes: "y"}}, {{Name: "a", Bytes: "x"}, {Name: "b", Bytes: "y"}, {Name: "", Bytes: "y"}},
		{{Name: "a", Bytes: "x"}, {Name: "b", Bytes: "y"}, {Name: "b", Bytes: "y"}}, {{Name: "a", Bytes: "x"}, {Name: "b", Bytes: "y"}, {Name: "C", Bytes: "y"}},
		many(4095), many(4096), many(4097),
	}
	for c := range 256 {
		s := string([]byte{byte(c)})
		out = append(out, []api.File{{Name: s, Bytes: "x"}}, []api.File{{Name: "a" + s, Bytes: s}}, []api.File{{Name: s + "a", Bytes: s}}, []api.File{{Name: long[1:] + s, Bytes: s}})
	}
	return out
}

// many gives so many files, each with a byte.
func many(n int) []api.File {
	var l []api.File
	for i := range n {
		l = append(l, api.File{Name: fmt.Sprintf("f%05d", i), Bytes: "x"})
	}
	return l
}

// P9.1: May of files that may be, and such that may not; Of answers just these, with whatever room.
func TestMayAndOf(t *testing.T) {
	yes := 0
	for _, l := range lists() {
		may := disk.May(l)
		if may != mayBe(l) {
			t.Errorf("May of %d files, %.99q: %v", len(l), fmt.Sprint(l), may)
		}
		if may {
			yes++
		}
		for _, room := range append([]int{0, 1, 2, use(l) - 1, use(l), use(l) + 1, 1 << 20}, wrongRooms...) {
			want := api.OK
			switch {
			case room < 0 || room > 1<<20 || !mayBe(l):
				want = api.ErrArg
			case use(l) > room:
				want = api.ErrFull
			}
			d, e := disk.Of(l, room)
			if e != want || (d == nil) != (e != api.OK) {
				t.Errorf("Of %d files, %.99q, %d: error %d, not %d", len(l), fmt.Sprint(l), room, e, want)
			}
			if d != nil {
				alike(t, d, &model{room: room, kept: l}, []string{"a", "b", "z", "f00000"})
			}
		}
	}
	if yes < 100 {
		t.Errorf("only %d lists may be", yes)
	}
}

// P9.1: the room is asked for ahead of what the files use; files of more bytes than any disk has are told, too.
func TestOfTooMuch(t *testing.T) {
	big := strings.Repeat("x", 1<<20)
	l := []api.File{{Name: "a", Bytes: big}}
	if d, e := disk.Of(l, 1<<20); e != api.OK || d.Room() != 0 || d.Read("a") != big {
		t.Errorf("a full disk: error %d", e)
	}
	l = append(l, api.File{Name: "b", Bytes: big})
	if d, e := disk.Of(l, 1<<20); d != nil || e != api.ErrFull {
		t.Errorf("too many bytes: error %d", e)
	}
	if d, e := disk.Of(l, 1<<21); d != nil || e != api.ErrArg {
		t.Errorf("too many bytes, and too much room: error %d", e)
	}
	l[1].Name = "a"
	if d, e := disk.Of(l, 1<<20); d != nil || e != api.ErrArg {
		t.Errorf("too many bytes, and a name twice: error %d", e)
	}
}

// P9.2: each fault of a write, alone and with all others, in the order in which they are named; a refused write does nothing.
func TestWriteFaults(t *testing.T) {
	names := []string{"a", "b", "f00000", "", "A", "a.", "zzzzzzzzzzzzzzzz", "zzzzzzzzzzzzzzzzz", "\xff"}
	places := []int{-1, 0, 1, 2, 3, 4, math.MinInt, math.MaxInt, math.MaxInt - 1}
	texts := []string{"", "q", "pqr", strings.Repeat("x", 10000)}
	for _, room := range []int{3, 4, 5, 10003, 10004} {
		for _, kept := range [][]api.File{nil, {{Name: "a", Bytes: "xyz"}}, {{Name: "a", Bytes: "x"}, {Name: "f00000", Bytes: "yz"}}} {
			writeEach(t, kept, room, names, places, texts)
		}
	}
	for _, room := range []int{4096, 4097} {
		writeEach(t, many(4095), room, names[:4], places[:3], texts[:3])
		writeEach(t, many(4096), room, names[:4], places[:3], texts[:3])
	}
}

// writeEach writes each text at each place of each file, on a new disk each time.
func writeEach(t *testing.T, kept []api.File, room int, names []string, places []int, texts []string) {
	t.Helper()
	for _, name := range names {
		for _, at := range places {
			for _, s := range texts {
				d, m := made(t, kept, room)
				if got, want := d.Write(name, at, s), m.write(name, at, s); got != want {
					t.Errorf("room %d, %d files: Write(%q, %d, %d bytes): error %d, not %d", room, len(kept), name, at, len(s), got, want)
				}
				if !alike(t, d, m, names) {
					t.Errorf("room %d, %d files: Write(%q, %d, %d bytes)", room, len(kept), name, at, len(s))
				}
			}
		}
	}
}

// P9.2: there may be as many files as MaxFiles; a further one is refused ahead of the room, and one that is there isn't.
func TestWriteOfManyFiles(t *testing.T) {
	d, _ := disk.New(4097)
	for i, f := range many(4096) {
		if e := d.Write(f.Name, 0, f.Bytes); e != api.OK || d.Pending() != i+1 {
			t.Fatalf("the file %d: error %d", i, e)
		}
	}
	for _, s := range []string{"x", "xx"} {
		if e := d.Write("a", 0, s); e != api.ErrMany {
			t.Errorf("one file too many: error %d", e)
		}
	}
	if e := d.Write("a", 1, "x"); e != api.ErrRange {
		t.Errorf("one file too many, at 1: error %d", e)
	}
	if e := d.Write("f00007", 1, "y"); e != api.OK || d.Read("f00007") != "xy" {
		t.Errorf("a file that is there: error %d", e)
	}
	d.Sync()
	if e := d.Cut("f00000", 0); e != api.OK || len(d.Files()) != 4095 {
		t.Errorf("Cut of 0: error %d", e)
	}
	if e := d.Write("a", 0, "x"); e != api.OK {
		t.Errorf("a file for another: error %d", e)
	}
}

// P9.2, P9.3: a write at each place of a file, of each length: over what stands there, across its end, and behind it.
func TestWriteAtEachPlace(t *testing.T) {
	const had, s = "abcde", "12345678"
	for at := range len(had) + 1 {
		for n := 1; n <= len(s); n++ {
			d, m := made(t, []api.File{{Name: "f", Bytes: had}, {Name: "g", Bytes: "g"}}, 20)
			if e := d.Write("f", at, s[:n]); e != api.OK {
				t.Errorf("Write at %d of %d bytes: error %d", at, n, e)
			}
			want := had[:at] + s[:n]
			if at+n < len(had) {
				want += had[at+n:]
			}
			if got := d.Read("f"); got != want || d.Used() != len(want)+1 {
				t.Errorf("Write at %d of %d bytes: %q, not %q", at, n, got, want)
			}
			m.write("f", at, s[:n])
			alike(t, d, m, []string{"f", "g"})
			if got := d.Kept(); got[0].Bytes != had {
				t.Errorf("Write at %d of %d bytes is kept: %q", at, n, got)
			}
			if e := d.Sync(); e != api.OK || d.Pending() != 0 || d.Kept()[0].Bytes != want || d.Read("f") != want {
				t.Errorf("Write at %d of %d bytes, then Sync: error %d, %q", at, n, e, d.Kept())
			}
		}
	}
}

// P9.2: Cut at each place, and beyond; the bytes that were cut off don't come back.
func TestCut(t *testing.T) {
	const had = "abcde"
	for n := range len(had) + 3 {
		d, m := made(t, []api.File{{Name: "f", Bytes: had}, {Name: "g", Bytes: "g"}}, 20)
		for _, name := range []string{"f", "h", "", "F", strings.Repeat("f", 99)} {
			if e := d.Cut(name, n); e != api.OK {
				t.Errorf("Cut(%q, %d): error %d", name, n, e)
			}
		}
		m.cut("f", n)
		if alike(t, d, m, []string{"f", "g", "h"}); d.Read("f") != had[:min(n, len(had))] {
			t.Errorf("Cut at %d: %q", n, d.Read("f"))
		}
		// What comes behind a cut stands at its place, on what stands and on what is kept.
		end := len(d.Read("f"))
		for _, do := range []struct {
			at int
			s  string
		}{{end, "1"}, {end + 1, "23"}} {
			if got, want := d.Write("f", do.at, do.s), m.write("f", do.at, do.s); got != want {
				t.Errorf("Write behind a cut at %d: error %d, not %d", n, got, want)
			}
		}
		torn := func(i int) int { return i }
		d.Crash(torn)
		m.crash(torn)
		alike(t, d, m, []string{"f", "g"})
	}
}

// P9.2: Cut's faults: what is pending is told ahead of a number below 0; nothing is cut then.
func TestCutFaults(t *testing.T) {
	for _, n := range []int{-1, math.MinInt, 0, 1, 2, math.MaxInt} {
		for _, name := range []string{"f", "g", "h", ""} {
			d, m := made(t, []api.File{{Name: "f", Bytes: "abc"}, {Name: "g", Bytes: "d"}}, 9)
			if got, want := d.Cut(name, n), m.cut(name, n); got != want || (n < 0) != (got == api.ErrArg) {
				t.Errorf("Cut(%q, %d): error %d, not %d", name, n, got, want)
			}
			alike(t, d, m, []string{"f", "g", "h"})
			d.Write("k", 0, "x")
			m.write("k", 0, "x")
			if got := d.Cut(name, n); got != api.ErrState {
				t.Errorf("Cut(%q, %d) of a disk with a pending write: error %d", name, n, got)
			}
			alike(t, d, m, []string{"f", "g", "h", "k"})
			d.Sync()
			m.sync()
			if got, want := d.Cut(name, n), m.cut(name, n); got != want {
				t.Errorf("Cut(%q, %d) behind Sync: error %d, not %d", name, n, got, want)
			}
			alike(t, d, m, []string{"f", "g", "h", "k"})
		}
	}
}

// P9.1, P9.2, P9.3: of nil: nothing, ErrArg.
func TestNil(t *testing.T) {
	var d *disk.Disk
	asked := 0
	count := func(int) int { asked++; return 1 }
	for i, e := range []api.Errno{d.Write("a", 0, "x"), d.Write("", -1, ""), d.Sync(), d.Cut("a", 0), d.Cut("a", -1), d.Crash(count), d.Crash(nil)} {
		if e != api.ErrArg {
			t.Errorf("the call %d: error %d", i, e)
		}
	}
	if d.Read("a") != "" || d.Files() != nil || d.Kept() != nil || d.Used() != 0 || d.Room() != 0 || d.Pending() != 0 || asked != 0 {
		t.Error("a nil disk tells something")
	}
	for _, pending := range []bool{false, true} {
		d, m := made(t, []api.File{{Name: "f", Bytes: "abc"}}, 9)
		if pending {
			d.Write("f", 1, "xyz")
			m.write("f", 1, "xyz")
		}
		if e := d.Crash(nil); e != api.ErrArg {
			t.Errorf("a crash that nothing chooses: error %d", e)
		}
		alike(t, d, m, []string{"f"})
	}
}

// P9.1: a disk that no call made has no room, and no call of it panics.
func TestZero(t *testing.T) {
	var d disk.Disk
	if e := d.Write("a", 0, "x"); e != api.ErrFull {
		t.Errorf("Write: error %d", e)
	}
	if d.Sync() != api.OK || d.Cut("a", 0) != api.OK || d.Crash(func(int) int { return 1 }) != api.OK {
		t.Error("Sync, Cut or Crash")
	}
	alike(t, &d, &model{}, []string{"a"})
}
