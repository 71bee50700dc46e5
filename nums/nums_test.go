package nums_test

import (
	"math"
	"strings"
	"testing"

	"engross/nums"
)

// numbers are the edges of every length that a number's bytes may have, and some between.
func numbers() []uint64 {
	list := []uint64{0, 1, 2, 5, 126, 127, 128, 129, 255, 256, 300, 16383, 16384, 65535, 65536, math.MaxInt64, math.MaxInt64 + 1, math.MaxUint64 - 1, math.MaxUint64}
	for shift := 0; shift < 64; shift++ {
		edge := uint64(1) << shift
		list = append(list, edge-1, edge, edge+1, edge+edge/3)
	}
	return list
}

// written is a number's bytes as the chapter words them, by division.
func written(n uint64) string {
	var out []byte
	for {
		digit := byte(n % 128)
		n /= 128
		if n == 0 {
			return string(append(out, digit))
		}
		out = append(out, digit+128)
	}
}

// P1.1: the bytes of numbers.
func TestNumGivesTheDigitsLowestFirst(t *testing.T) {
	for _, x := range []struct {
		n uint64
		s string
	}{
		{0, "\x00"}, {1, "\x01"}, {127, "\x7f"}, {128, "\x80\x01"}, {300, "\xac\x02"}, {16383, "\xff\x7f"}, {16384, "\x80\x80\x01"},
		{1<<63 - 1, "\xff\xff\xff\xff\xff\xff\xff\xff\x7f"},
		{1 << 63, "\x80\x80\x80\x80\x80\x80\x80\x80\x80\x01"},
		{1<<64 - 1, "\xff\xff\xff\xff\xff\xff\xff\xff\xff\x01"},
	} {
		if got := nums.Num(x.n); got != x.s {
			t.Errorf("Num(%d): %q, not %q", x.n, got, x.s)
		}
	}
	for _, n := range numbers() {
		if got := nums.Num(n); got != written(n) {
			t.Errorf("Num(%d): %q, not %q", n, got, written(n))
		}
	}
}

// P1.1: numbers with a sign, turned in and out.
func TestZigTurnsInAndZagTurnsOut(t *testing.T) {
	for _, x := range []struct {
		n  int64
		in uint64
		s  string
	}{
		{0, 0, "\x00"}, {-1, 1, "\x01"}, {1, 2, "\x02"}, {-2, 3, "\x03"}, {2, 4, "\x04"}, {5, 10, "\x0a"}, {-3, 5, "\x05"},
		{63, 126, "\x7e"}, {-64, 127, "\x7f"}, {64, 128, "\x80\x01"}, {-65, 129, "\x81\x01"},
		{math.MaxInt64, 1<<64 - 2, "\xfe\xff\xff\xff\xff\xff\xff\xff\xff\x01"},
		{math.MinInt64, 1<<64 - 1, "\xff\xff\xff\xff\xff\xff\xff\xff\xff\x01"},
		{math.MinInt64 + 1, 1<<64 - 3, "\xfd\xff\xff\xff\xff\xff\xff\xff\xff\x01"},
	} {
		if in, out, s := nums.Zig(x.n), nums.Zag(x.in), nums.Int(x.n); in != x.in || out != x.n || s != x.s {
			t.Errorf("%d: Zig %d, Zag(%d) %d, Int %q", x.n, in, x.in, out, s)
		}
	}
	for _, n := range numbers() {
		if in := nums.Zig(nums.Zag(n)); in != n {
			t.Errorf("Zig(Zag(%d)): %d", n, in)
		}
	}
}

// P1.1: the bytes of rows.
func TestRowGivesItsLengthAndItsBytes(t *testing.T) {
	for _, x := range []struct{ row, s string }{
		{"", "\x00"}, {"ab", "\x02ab"}, {"\x00", "\x01\x00"}, {"\xff\x80", "\x02\xff\x80"}, {"é", "\x02\xc3\xa9"},
	} {
		if got := nums.Row(x.row); got != x.s {
			t.Errorf("Row(%q): %q, not %q", x.row, got, x.s)
		}
	}
	for _, size := range []int{126, 127, 128, 300, 16383, 16384, 65536} {
		row := strings.Repeat("x", size)
		if got := nums.Row(row); got != written(uint64(size))+row {
			t.Errorf("Row of %d bytes begins with %q", size, got[:3])
		}
	}
}
