package frame_test

import (
	"encoding/binary"
	"slices"
	"strings"
	"testing"

	"engross/api"
	"engross/frame"
)

// What the package is held against: the chapter's words, over numbers that the library reads and writes.

// framed gives the frame of a row, however long it is.
func framed(row string) string {
	return string(binary.AppendUvarint(nil, uint64(len(row)))) + row + "\xa5"
}

// wanted gives what Next tells of s.
func wanted(s string) (string, int, api.Errno) {
	if s == "" {
		return "", 0, api.ErrNone
	}
	// The library asks for no more than that a number fits, not for its last digit, and takes ten digits that go on for too few.
	n, size := binary.Uvarint([]byte(s[:min(len(s), 11)]))
	switch {
	case size < 0, size == 0 && len(s) >= 10, size > 1 && s[size-1] == 0:
		return "", 0, api.ErrForm
	case size == 0:
		return "", 0, api.ErrShort
	case n > 65536:
		return "", 0, api.ErrMany
	case n == 0:
		return "", 0, api.ErrForm
	}
	end := size + int(n)
	switch {
	case len(s) < end+1:
		return "", 0, api.ErrShort
	case s[end] != 165:
		return "", 0, api.ErrForm
	}
	return s[size:end], end + 1, api.OK
}

// next fails where Next doesn't tell just this of s.
func next(t *testing.T, s, row string, size int, e api.Errno) {
	t.Helper()
	if gotRow, gotSize, got := frame.Next(s); gotRow != row || gotSize != size || got != e {
		t.Errorf("Next of %d bytes, %.20q: %.20q, %d, error %d, not %.20q, %d, error %d", len(s), s, gotRow, gotSize, got, row, size, e)
	}
}

// refused fails where Next doesn't tell just the error of s.
func refused(t *testing.T, s string, e api.Errno) {
	t.Helper()
	next(t, s, "", 0, e)
}

// scanned fails where Scan and Sizes don't tell just these rows, and their frames, of s.
func scanned(t *testing.T, s string, rows []string) {
	t.Helper()
	var sizes []int
	total := 0
	for _, row := range rows {
		sizes = append(sizes, len(framed(row)))
		total += len(framed(row))
	}
	if got, n := frame.Scan(s); !slices.Equal(got, rows) || n != total {
		t.Errorf("Scan of %d bytes, %.20q: %d rows, %.60q, %d, not %d rows, %.60q, %d", len(s), s, len(got), got, n, len(rows), rows, total)
	}
	if got := frame.Sizes(s); !slices.Equal(got, sizes) {
		t.Errorf("Sizes of %d bytes, %.20q: %d, not %d", len(s), s, got, sizes)
	}
}

// asWorded fails where another thing is told of s than the chapter's words say; it tells how many frames s begins with.
func asWorded(t *testing.T, s string) int {
	t.Helper()
	row, size, e := wanted(s)
	next(t, s, row, size, e)
	var rows []string
	for rest := s; e == api.OK; row, size, e = wanted(rest) {
		rows = append(rows, row)
		rest = rest[size:]
	}
	scanned(t, s, rows)
	return len(rows)
}

// lengths are those of rows at the edges of what may be, and of each length of their number's bytes.
var lengths = []int{1, 2, 3, 126, 127, 128, 129, 165, 255, 256, 300, 16383, 16384, 16385, 65534, 65535, 65536}

// rows are some of each length: of letters, of noughts, of the last byte of a frame, of bytes above 127, and of all bytes.
func rows() []string {
	var all strings.Builder
	for b := range 256 {
		all.WriteByte(byte(b))
	}
	list := []string{"\x01a\xa5", framed("ab"), "\x00\xa5", "\xa5\x00", "é"}
	for _, size := range lengths {
		for _, of := range []string{"x", "\x00", "\xa5", "\xff", "\x80", all.String()} {
			list = append(list, strings.Repeat(of, size/len(of)+1)[:size])
		}
	}
	return list
}
