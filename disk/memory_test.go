package disk_test

import (
	"slices"
	"testing"
	"unsafe"

	"engross/api"
	"engross/disk"
)

// place gives where a text lies.
func place(s string) uintptr { return uintptr(unsafe.Pointer(unsafe.StringData(s))) }

// P9.2, P9.3, by the rule of memory: what is handed in isn't kept, and each answer is new memory.
func TestMemory(t *testing.T) {
	given := [][]byte{[]byte("ab"), []byte("xyz"), []byte("cd"), []byte("pq")}
	text := func(i int) string { return unsafe.String(&given[i][0], len(given[i])) }
	files := append(make([]api.File, 0, 4), api.File{Name: text(0), Bytes: text(1)})
	d, e := disk.Of(files, 99)
	if e != api.OK {
		t.Fatal(e)
	}
	d.Write(text(2), 0, text(3))
	d.Write(text(0), 1, text(3))
	if spare := files[:2][1]; spare != (api.File{}) || files[0] != (api.File{Name: "ab", Bytes: "xyz"}) {
		t.Errorf("what was handed in was changed: %q", files[:2])
	}
	for _, b := range given {
		for i := range b {
			b[i] = '!'
		}
	}
	files[0] = api.File{Name: "z", Bytes: "z"}
	stand, kept := []api.File{{Name: "ab", Bytes: "xpq"}, {Name: "cd", Bytes: "pq"}}, []api.File{{Name: "ab", Bytes: "xyz"}}
	if !slices.Equal(d.Files(), stand) || !slices.Equal(d.Kept(), kept) {
		t.Errorf("stand %q, kept %q", d.Files(), d.Kept())
	}
	d.Crash(func(int) int { return 9 })
	if !slices.Equal(d.Files(), stand) || !slices.Equal(d.Kept(), stand) {
		t.Errorf("stand %q, kept %q", d.Files(), d.Kept())
	}
}

// P9.3: no two texts of answers lie at one place, and what was answered stays what it was.
func TestAnswersAreNew(t *testing.T) {
	d, _ := disk.Of([]api.File{{Name: "ab", Bytes: "xyz"}, {Name: "cd", Bytes: "uvw"}}, 99)
	d.Write("ab", 1, "pq")
	seen := map[uintptr]bool{}
	tell := func(s string) {
		if seen[place(s)] {
			t.Errorf("%q lies where another text does", s)
		}
		seen[place(s)] = true
	}
	var told []string
	var lists [][]api.File
	for range 2 {
		for _, l := range [][]api.File{d.Files(), d.Kept()} {
			lists = append(lists, l)
			for _, f := range l {
				told = append(told, f.Name, f.Bytes)
			}
		}
		told = append(told, d.Read("ab"), d.Read("cd"))
	}
	for _, s := range told {
		tell(s)
	}
	d.Write("ab", 0, "!!!")
	d.Write("cd", 0, "!!!")
	d.Sync()
	for i, l := range lists {
		want := []api.File{{Name: "ab", Bytes: [...]string{"xpq", "xyz"}[i%2]}, {Name: "cd", Bytes: "uvw"}}
		if !slices.Equal(l, want) {
			t.Errorf("what was answered is now %q, not %q", l, want)
		}
		l[0], l[1] = api.File{}, api.File{}
	}
	if d.Read("ab") != "!!!" || len(d.Files()) != 2 || d.Files()[0].Bytes != "!!!" {
		t.Errorf("a change of an answer changed the disk: %q", d.Files())
	}
}

// By the rule of nothing else: disks to which the same was done answer the same, in whatever order their maps are gone through.
func TestDisksAlike(t *testing.T) {
	var first []api.File
	for i := range 20 {
		d, _ := disk.New(2000)
		for _, f := range many(300) {
			d.Write(f.Name, 0, f.Bytes+"y")
		}
		d.Crash(func(i int) int { return i % 3 })
		if i == 0 {
			first = d.Files()
		}
		if !slices.Equal(d.Files(), first) || !slices.Equal(d.Kept(), first) || len(first) != 200 {
			t.Fatalf("the disk %d has %d files, the first %d", i, len(d.Files()), len(first))
		}
	}
}
