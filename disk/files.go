package disk

import (
	"maps"
	"math"
	"slices"
	"strings"

	"engross/api"
)

// byName are files; none is without bytes.
type byName map[string][]byte

// May tells whether these may be the files of a disk.
func May(files []api.File) bool {
	if len(files) > api.MaxFiles {
		return false
	}
	last := "" // ahead of any name
	for _, f := range files {
		if !isName(f.Name) || f.Name <= last || f.Bytes == "" {
			return false
		}
		last = f.Name
	}
	return true
}

// isName tells whether a file may have that name.
func isName(s string) bool {
	for i := range len(s) {
		digit, letter := s[i] >= '0' && s[i] <= '9', s[i] >= 'a' && s[i] <= 'z'
		if !digit && !letter {
			return false
		}
	}
	return s != "" && len(s) <= api.MaxName
}

// size tells how many bytes the files use.
func size(files []api.File) int {
	n := 0
	for _, f := range files {
		n += len(f.Bytes)
	}
	return n
}

func named(files []api.File) byName {
	m := byName{}
	for _, f := range files {
		m[strings.Clone(f.Name)] = []byte(f.Bytes)
	}
	return m
}

// list gives the files by names, in new memory.
func (m byName) list() []api.File {
	var l []api.File
	for _, name := range slices.Sorted(maps.Keys(m)) {
		l = append(l, api.File{Name: strings.Clone(name), Bytes: string(m[name])})
	}
	return l
}

// again gives the same files, in new memory: writes go into the bytes that are there.
func (m byName) again() byName {
	other := byName{}
	for name, b := range m {
		other[name] = slices.Clone(b)
	}
	return other
}

// cut leaves the first n bytes of a file; n is 0 or above.
func (m byName) cut(name string, n int) {
	switch {
	case len(m[name]) <= n:
	case n == 0:
		delete(m, name)
	default:
		m[name] = m[name][:n]
	}
}

// write writes its first n bytes on any files; all of them, if it has no more.
type write func(m byName, n int)

// whole is above the length of any write.
const whole = math.MaxInt

// written gives the write of s at the place at of a file.
func written(name string, at int, s string) write {
	return func(m byName, n int) {
		// Nothing of a write makes no file, and no noughts ahead of its place.
		if n > 0 {
			m[name] = laid(m[name], at, s[:min(n, len(s))])
		}
	}
}

// laid gives b with s at the place at; b itself may be changed.
func laid(b []byte, at int, s string) []byte {
	if more := at + len(s) - len(b); more > 0 {
		b = append(b, make([]byte, more)...)
	}
	copy(b[at:], s)
	return b
}
