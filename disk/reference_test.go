package disk_test

import (
	"regexp"
	"slices"
	"sort"
	"strings"
	"testing"

	"engross/api"
	"engross/disk"
)

// The chapter's words once more, over lists that are copied whole: each disk is the files that are kept and the writes behind them, and what stands is worked out from these each time.

type wish struct {
	name string
	at   int
	s    string
}

type model struct {
	room    int
	kept    []api.File
	pending []wish
}

var nameForm = regexp.MustCompile(`\A[0-9a-z]{1,16}\z`)

func mayBe(l []api.File) bool {
	rising := sort.SliceIsSorted(l, func(i, j int) bool { return l[i].Name < l[j].Name })
	names := map[string]bool{}
	for _, f := range l {
		if names[f.Name] || !nameForm.MatchString(f.Name) || len(f.Bytes) == 0 {
			return false
		}
		names[f.Name] = true
	}
	return rising && len(l) <= 4096
}

func use(l []api.File) int {
	var all strings.Builder
	for _, f := range l {
		all.WriteString(f.Bytes)
	}
	return all.Len()
}

func find(l []api.File, name string) (int, string) {
	for i, f := range l {
		if f.Name == name {
			return i, f.Bytes
		}
	}
	return -1, ""
}

// set gives the files with these bytes in that one, which goes, if they are none.
func set(l []api.File, name, s string) []api.File {
	var out []api.File
	for _, f := range l {
		if f.Name != name {
			out = append(out, f)
		}
	}
	if s != "" {
		out = append(out, api.File{Name: name, Bytes: s})
	}
	slices.SortFunc(out, func(a, b api.File) int { return strings.Compare(a.Name, b.Name) })
	return out
}

// done gives the files with the first n bytes of the write done on them.
func done(l []api.File, w wish, n int) []api.File {
	if n > len(w.s) {
		n = len(w.s)
	}
	if n <= 0 {
		return l
	}
	_, b := find(l, w.name)
	for len(b) < w.at {
		b += "\x00"
	}
	behind := ""
	if w.at+n < len(b) {
		behind = b[w.at+n:]
	}
	return set(l, w.name, b[:w.at]+w.s[:n]+behind)
}

func (m *model) stand() []api.File {
	l := m.kept
	for _, w := range m.pending {
		l = done(l, w, len(w.s))
	}
	return l
}

func (m *model) write(name string, at int, s string) api.Errno {
	l := m.stand()
	i, b := find(l, name)
	switch {
	case !nameForm.MatchString(name), len(s) == 0:
		return 1
	case at < 0, at > len(b):
		return 11
	case i < 0 && len(l) >= 4096:
		return 4
	}
	w := wish{name, at, s}
	if use(done(l, w, len(s))) > m.room {
		return 6
	}
	m.pending = append(m.pending, w)
	return 0
}

func (m *model) sync() api.Errno {
	m.kept = m.stand()
	m.pending = nil
	return 0
}

func (m *model) cut(name string, n int) api.Errno {
	if len(m.pending) != 0 {
		return 8
	}
	if n < 0 {
		return 1
	}
	if i, b := find(m.kept, name); i >= 0 && len(b) > n {
		m.kept = set(m.kept, name, b[:n])
	}
	return 0
}

func (m *model) crash(choose func(i int) int) api.Errno {
	for i, w := range m.pending {
		m.kept = done(m.kept, w, choose(i))
	}
	m.pending = nil
	return 0
}

// alike holds all that a disk tells against the model.
func alike(t *testing.T, d *disk.Disk, m *model, names []string) bool {
	t.Helper()
	l := m.stand()
	good := slices.Equal(d.Files(), l) && slices.Equal(d.Kept(), m.kept) && d.Used() == use(l) && d.Room() == m.room-use(l) && d.Pending() == len(m.pending)
	for _, name := range names {
		_, b := find(l, name)
		good = good && d.Read(name) == b
	}
	if !good {
		t.Errorf("stand %q, kept %q, used %d, room %d, pending %d; not %q, %q, %d, %d, %d", d.Files(), d.Kept(), d.Used(), d.Room(), d.Pending(), l, m.kept, use(l), m.room-use(l), len(m.pending))
	}
	return good
}

// made gives a disk with these files, and its model.
func made(t *testing.T, l []api.File, room int) (*disk.Disk, *model) {
	t.Helper()
	d, e := disk.Of(l, room)
	if e != api.OK {
		t.Fatalf("Of %q, %d: error %d", l, room, e)
	}
	return d, &model{room: room, kept: l}
}
