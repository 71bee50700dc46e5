package column_test

import (
	"encoding/binary"
	"math"
	"math/big"
	"slices"
	"strings"
	"testing"

	"engross/api"
	"engross/column"
)

// What the package is held against: the chapter's words, over numbers without bounds and the library's numbers as bytes.

// mostNumbers is how many numbers a column's bytes have at most.
const mostNumbers = 65536

var round, half = new(big.Int).Lsh(big.NewInt(1), 64), new(big.Int).Lsh(big.NewInt(1), 63)

// within gives the one number of 64 bits from which n is as many times 2^64 as may be.
func within(n *big.Int) int64 {
	n.Add(n, half).Mod(n, round)
	return n.Sub(n, half).Int64()
}

// runsOf gives the runs of a column's differences.
func runsOf(l []int64) [][2]int64 {
	var list [][2]int64
	for i, n := range l {
		by := big.NewInt(n)
		if i > 0 {
			by.Sub(by, big.NewInt(l[i-1]))
		}
		difference := within(by)
		if i > 0 && list[len(list)-1][0] == difference {
			list[len(list)-1][1]++
		} else {
			list = append(list, [2]int64{difference, 1})
		}
	}
	return list
}

// columnOf gives the column whose differences these runs have.
func columnOf(runs ...[2]int64) []int64 {
	var l []int64
	n := new(big.Int)
	for _, run := range runs {
		for range run[1] {
			n.Add(n, big.NewInt(run[0]))
			l = append(l, within(new(big.Int).Set(n)))
		}
	}
	return l
}

// number gives a number's bytes, and signed those of a number with a sign.
func number(n uint64) string { return string(binary.AppendUvarint(nil, n)) }

func signed(n int64) string { return string(binary.AppendVarint(nil, n)) }

// written gives the bytes that runs have behind so many numbers, whatever they are.
func written(numbers uint64, runs ...[2]int64) string {
	var s strings.Builder
	s.WriteString(number(numbers))
	for _, run := range runs {
		s.WriteString(signed(run[0]) + number(uint64(run[1])))
	}
	return s.String()
}

// putOf gives a column's bytes.
func putOf(l []int64) string { return written(uint64(len(l)), runsOf(l)...) }

// read reads a number from s, and tells what stands behind it.
func read(s string, most uint64) (uint64, string, api.Errno) {
	// The library asks for no more than that a number fits, not for its last digit, and takes ten digits that go on for too few.
	n, size := binary.Uvarint([]byte(s[:min(len(s), 11)]))
	switch {
	case size < 0, size == 0 && len(s) >= 10, size > 1 && s[size-1] == 0:
		return 0, "", api.ErrForm
	case size == 0:
		return 0, "", api.ErrShort
	case n > most:
		return 0, "", api.ErrMany
	}
	return n, s[size:], api.OK
}

// wanted gives what Get tells of s.
func wanted(s string, most int) ([]int64, int, api.Errno) {
	if most < 0 || most > mostNumbers {
		return nil, 0, api.ErrArg
	}
	numbers, rest, e := read(s, uint64(most))
	if e != api.OK {
		return nil, 0, e
	}
	var runs [][2]int64
	for there := uint64(0); there < numbers; {
		var in, times uint64
		if in, rest, e = read(rest, math.MaxUint64); e != api.OK {
			return nil, 0, e
		}
		if times, rest, e = read(rest, numbers-there); e != api.OK {
			return nil, 0, e
		}
		by, _ := binary.Varint([]byte(number(in)))
		if times == 0 || len(runs) > 0 && runs[len(runs)-1][0] == by {
			return nil, 0, api.ErrForm
		}
		runs = append(runs, [2]int64{by, int64(times)})
		there += times
	}
	return columnOf(runs...), len(s) - len(rest), api.OK
}

// told fails where Get doesn't tell just this of s.
func told(t *testing.T, s string, most int, l []int64, size int, e api.Errno) {
	t.Helper()
	if got, n, f := column.Get(s, most); !slices.Equal(got, l) || n != size || f != e {
		t.Errorf("Get of %d bytes, %.30q, at most %d: %d numbers, %.60d, %d, error %d, not %d numbers, %.60d, %d, error %d", len(s), s, most, len(got), got[:min(9, len(got))], n, f, len(l), l[:min(9, len(l))], size, e)
	}
}

// refused fails where Get doesn't tell just the error of s.
func refused(t *testing.T, s string, most int, e api.Errno) {
	t.Helper()
	told(t, s, most, nil, 0, e)
}

// asWorded fails where another thing is told of s than the chapter's words say, or where what is got has other bytes; it tells whether there is a column.
func asWorded(t *testing.T, s string, most int) bool {
	t.Helper()
	l, size, e := wanted(s, most)
	told(t, s, most, l, size, e)
	if e != api.OK {
		return false
	}
	if again, f := column.Put(l); again != s[:size] || f != api.OK {
		t.Errorf("%.30q is got as %d numbers, whose bytes are %.30q, error %d", s, len(l), again, f)
	}
	return true
}

// edges are numbers at the ends of what fits, and of each length of a number's bytes, with both signs.
func edges() []int64 {
	list := []int64{0, -1, 1, 2, -2, 13, 14, math.MaxInt64, math.MaxInt64 - 1, math.MinInt64, math.MinInt64 + 1}
	for shift := 6; shift < 63; shift += 7 {
		edge := int64(1) << shift
		list = append(list, edge-1, edge, -edge, -edge-1)
	}
	return list
}

// chance gives numbers below what it is asked for, others of each seed.
func chance(seed uint64) func(n int) int {
	return func(n int) int {
		seed = seed*6364136223846793005 + 1442695040888963407
		return int(seed >> 33 % uint64(n))
	}
}

// columns are such as have no number, one, few and many, in one run, in some, and in as many as there are numbers.
func columns() [][]int64 {
	list := [][]int64{nil, {}, {0, 0}, {0, 0, 1, 1, 0, 0}, {1, 1, 2, 2}, {3, 2, 1, 0, -1, -3}, {5, 0, 5, 0, 5}}
	all := edges()
	for _, a := range all {
		for _, b := range all {
			list = append(list, []int64{a}, []int64{a, b}, []int64{a, b, a}, []int64{a, a, b, b, b}, columnOf([2]int64{a, 3}, [2]int64{b, 2}))
		}
	}
	for _, size := range []int{127, 128, 300, 16383, 16384, 65535, mostNumbers} {
		apart := make([]int64, size)
		for i := range apart {
			apart[i] = int64(i) * int64(i)
		}
		list = append(list, make([]int64, size), columnOf([2]int64{1, int64(size)}), columnOf([2]int64{math.MinInt64, 1}, [2]int64{-7, int64(size) - 1}), apart)
	}
	below := chance(11)
	for range 400 {
		var l []int64
		for range below(12) {
			by := all[below(len(all))]
			for range 1 + below(5)*below(40) {
				n := by
				if len(l) > 0 {
					n += l[len(l)-1]
				}
				l = append(l, n)
			}
		}
		list = append(list, l)
	}
	return list
}
