package nums

import (
	"strings"

	"engross/api"
)

// Reader goes along some bytes, up to the first thing that isn't right.
type Reader struct {
	rest  string // what wasn't passed
	fault api.Errno
}

// Read gives a reader at the first byte of s.
func Read(s string) *Reader { return &Reader{rest: s} }

// Num reads the number that stands next.
func (r *Reader) Num(most uint64) uint64 {
	return answer(r, func(rest string) (uint64, int, api.Errno) {
		return bounded(rest, func(n uint64) bool { return n <= most })
	})
}

// Int reads the number with a sign that stands next.
func (r *Reader) Int() int64 {
	return answer(r, func(rest string) (int64, int, api.Errno) {
		n, size, e := number(rest)
		return Zag(n), size, e
	})
}

// Row reads the row that stands next.
func (r *Reader) Row(most int) string {
	return answer(r, func(rest string) (string, int, api.Errno) {
		n, size, e := bounded(rest, func(n uint64) bool { return most >= 0 && n <= uint64(most) })
		if e != api.OK {
			return "", 0, e
		}
		row, e := take(rest[size:], int(n))
		return row, size + len(row), e
	})
}

// Take reads the next n bytes.
func (r *Reader) Take(n int) string {
	return answer(r, func(rest string) (string, int, api.Errno) {
		piece, e := take(rest, n)
		return piece, len(piece), e
	})
}

// Left tells how many bytes weren't passed.
func (r *Reader) Left() int {
	if r == nil {
		return 0
	}
	return len(r.rest)
}

// Fail lets r fault e, if it didn't yet.
func (r *Reader) Fail(e api.Errno) {
	going(r)(func(string) (int, api.Errno) { return 0, e })
}

// Fault tells what r faulted.
func (r *Reader) Fault() api.Errno {
	if r == nil {
		return api.ErrArg
	}
	return r.fault
}

// going gives the closure through which every call of r goes, so that none can forget to ask whether r faulted; it tells whether the look went well. It is made for each call: one that the reader kept would still move the first reader when a reader is copied.
func going(r *Reader) func(look func(rest string) (int, api.Errno)) bool {
	return func(look func(rest string) (int, api.Errno)) bool {
		if r.Fault() != api.OK {
			return false
		}
		size, e := look(r.rest)
		if e != api.OK {
			r.fault = e
			return false
		}
		r.rest = r.rest[size:]
		return true
	}
}

// answer gives what read made of the bytes that are left, and passes them; zero, if r faulted or read does. read tells what it read and how many bytes that has.
func answer[T any](r *Reader, read func(rest string) (T, int, api.Errno)) (zero T) {
	var got T
	fine := going(r)(func(rest string) (size int, e api.Errno) {
		got, size, e = read(rest)
		return size, e
	})
	if !fine {
		return zero
	}
	return got
}

// bounded is number, and ErrMany of one that may not be.
func bounded(s string, may func(n uint64) bool) (uint64, int, api.Errno) {
	n, size, e := number(s)
	if e == api.OK && !may(n) {
		return 0, 0, api.ErrMany
	}
	return n, size, e
}

// number gives the number with whose bytes s begins, and how many they are.
func number(s string) (uint64, int, api.Errno) {
	var n uint64
	for i := range len(s) {
		digit := s[i]
		// The tenth digit has but the last bit of 64, so no eleventh is ever looked at.
		if i > 0 && digit == 0 || i == longest-1 && digit > 1 {
			return 0, 0, api.ErrForm
		}
		n |= uint64(digit&127) << (7 * i)
		if digit < 128 {
			return n, i + 1, api.OK
		}
	}
	return 0, 0, api.ErrShort
}

// take gives the first n bytes of s, copied so that a small answer doesn't hold all of s in memory.
func take(s string, n int) (string, api.Errno) {
	switch {
	case n < 0:
		return "", api.ErrArg
	case n > len(s):
		return "", api.ErrShort
	}
	return strings.Clone(s[:n]), api.OK
}
