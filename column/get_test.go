package column_test

import (
	"math"
	"slices"
	"strings"
	"testing"

	"engross/api"
	"engross/column"
)

// Bytes with which no number goes on, and ones that end ahead of a number's last digit.
var (
	none = []string{"\x80\x00", "\xff\x00", "\xff\xff\x00", strings.Repeat("\x80", 9) + "\x00", strings.Repeat("\xff", 9) + "\x02", strings.Repeat("\x80", 10), strings.Repeat("\xff", 11)}
	ends = []string{"", "\x80", "\xff", "\x80\x80", strings.Repeat("\xff", 9)}
)

// great are numbers that are greater than how many numbers there may be, some of which in fewer bits are not.
var great = []uint64{mostNumbers + 1, 1<<17 - 1, 1 << 17, 1<<31 - 1, 1 << 31, 1 << 32, 1<<32 + 1, math.MaxInt64, 1 << 63, 1<<63 + 1, math.MaxUint64 - 1, math.MaxUint64}

// P11.2: of no other most than one from 0 to 65,536 anything is told, whatever the bytes are.
func TestGetOfAnotherMost(t *testing.T) {
	for _, most := range []int{-1, -2, mostNumbers + 1, mostNumbers + 2, 1 << 17, 1<<32 - 1, 1 << 32, 1<<32 + 1, -1 << 32, -1<<32 + 1, math.MinInt, math.MinInt + 1, math.MaxInt} {
		for _, s := range slices.Concat([]string{"\x00", "\x01\x00\x01", "\x02\x00\x00", "\x01\x00\x02", "\x02\x02\x01\x02\x01", number(mostNumbers + 1), putOf(make([]int64, mostNumbers))}, none, ends) {
			refused(t, s, most, api.ErrArg)
		}
	}
	for _, most := range []int{0, 1, mostNumbers - 1, mostNumbers} {
		told(t, "\x00", most, nil, 1, api.OK)
		refused(t, "", most, api.ErrShort)
	}
}

// P11.2: layer 1's faults of how many numbers, whatever stands behind it.
func TestGetOfWrongCounts(t *testing.T) {
	behinds := []string{"", "\x00", "\x01", "\x00\x01", "\x80", "\x80\x00", strings.Repeat("\x00\x01\x02\x01", 9)}
	for _, most := range []int{0, 1, 5, 127, 128, mostNumbers} {
		for _, s := range none {
			for _, behind := range behinds {
				refused(t, s+behind, most, api.ErrForm)
			}
		}
		for _, s := range ends {
			refused(t, s, most, api.ErrShort)
		}
		for _, n := range append(great, uint64(most)+1, uint64(most)+2, uint64(most)+128, uint64(most)+1<<32, uint64(most)+1<<63) {
			for _, behind := range behinds {
				refused(t, number(n)+behind, most, api.ErrMany)
			}
		}
	}
	for _, l := range columns() {
		if len(l) > 0 {
			refused(t, putOf(l), len(l)-1, api.ErrMany)
			refused(t, putOf(l), 0, api.ErrMany)
		}
	}
}

// aheads are runs that stand ahead of others, in which fewer than seven numbers are.
var aheads = [][][2]int64{nil, {{0, 1}}, {{3, 5}}, {{-1, 1}, {0, 2}, {-1, 1}}, {{math.MinInt64, 1}, {math.MaxInt64, 5}}, {{1, 1}, {2, 1}, {3, 1}, {2, 1}, {1, 1}, {2, 1}}}

// total gives how many numbers runs have.
func total(runs [][2]int64) int64 {
	var n int64
	for _, run := range runs {
		n += run[1]
	}
	return n
}

// P11.2: layer 1's faults of a run's difference, at each run, whatever stands behind it.
func TestGetOfWrongDifferences(t *testing.T) {
	for _, runs := range aheads {
		s := written(7, runs...)
		for _, wrong := range none {
			for _, behind := range []string{"", "\x00", "\x01", "\x07", "\x80", "\x80\x00", "\x00\x00"} {
				refused(t, s+wrong+behind, 7, api.ErrForm)
			}
		}
		for _, end := range ends {
			refused(t, s+end, 7, api.ErrShort)
		}
	}
}

// differences are some that may come behind runs, and that of the last run itself, which may not.
func differences(runs [][2]int64) []int64 {
	list := []int64{0, 1, -1, 4, 300, math.MaxInt64, math.MinInt64}
	if len(runs) > 0 {
		list = append(list, runs[len(runs)-1][0])
	}
	return list
}

// P11.2: layer 1's faults of a run's how many, at each run, also where the difference is that of the run ahead.
func TestGetOfWrongHowMany(t *testing.T) {
	for _, runs := range aheads {
		lack := uint64(7 - total(runs))
		for _, by := range differences(runs) {
			s := written(7, runs...) + signed(by)
			for _, behind := range []string{"", "\x00", "\x01", "\x80", "\x80\x00", "\x00\x01\x02\x01"} {
				for _, wrong := range none {
					refused(t, s+wrong+behind, 7, api.ErrForm)
				}
				for _, n := range append(great, lack+1, lack+2, 7+1, lack+128, lack+1<<32, lack+1<<63) {
					refused(t, s+number(n)+behind, 7, api.ErrMany)
				}
			}
			for _, end := range ends {
				refused(t, s+end, 7, api.ErrShort)
			}
		}
	}
}

// P11.2: a run of none, and one of the difference of the run ahead, at each run, whatever stands behind it.
func TestGetOfRunsThatAreNone(t *testing.T) {
	for _, runs := range aheads {
		lack := 7 - total(runs)
		for _, behind := range []string{"", "\x00", "\x80", "\x80\x00", "\x01\x09", written(9, [2]int64{5, 1}), signed(5) + number(uint64(lack))} {
			for _, by := range differences(runs) {
				refused(t, written(7, append(slices.Clip(runs), [2]int64{by, 0})...)+behind, 7, api.ErrForm)
			}
			if len(runs) == 0 {
				continue
			}
			for times := int64(0); times <= lack; times++ {
				refused(t, written(7, append(slices.Clip(runs), [2]int64{runs[len(runs)-1][0], times})...)+behind, 7, api.ErrForm)
			}
		}
	}
}

// P11.2: a difference that comes again behind others is a run's own, and so is a first one of 0.
func TestGetOfDifferencesThatComeAgain(t *testing.T) {
	for _, x := range []struct {
		s string
		l []int64
	}{
		{"\x01\x00\x01", []int64{0}},
		{"\x02\x00\x02", []int64{0, 0}},
		{"\x03\x00\x01\x02\x01\x00\x01", []int64{0, 1, 1}},
		{"\x04\x02\x01\x00\x01\x02\x01\x00\x01", []int64{1, 1, 2, 2}},
		{"\x04\x00\x02\x01\x01\x00\x01", []int64{0, 0, -1, -1}},
	} {
		for _, behind := range []string{"", "\x00", "\x80", "\x00\x01", x.s} {
			told(t, x.s+behind, 9, x.l, len(x.s), api.OK)
		}
	}
}

// P11.2: a column that ends too soon, at each byte.
func TestGetOfBytesThatEndTooSoon(t *testing.T) {
	for _, l := range columns() {
		s := putOf(l)
		step := max(1, len(s)/200)
		for end := 0; end < len(s); end += step {
			refused(t, s[:end], mostNumbers, api.ErrShort)
		}
		refused(t, s[:len(s)-1], len(l), api.ErrShort)
	}
}

// P11.2, P11.3: all texts of up to seven telling bytes, in which each error stands ahead of others.
func TestAllShortTexts(t *testing.T) {
	texts, found := []string{""}, 0
	for i := 0; i < len(texts); i++ {
		s := texts[i]
		if len(s) < 7 {
			for _, b := range []byte{0, 1, 2, 3, 4, 128, 255} {
				texts = append(texts, s+string([]byte{b}))
			}
		}
		for _, most := range []int{3, mostNumbers} {
			if asWorded(t, s, most) {
				found++
			}
		}
	}
	if found < 100000 {
		t.Errorf("only %d columns in these texts", found)
	}
}

// P11.2, P11.3: columns in which some bytes are other ones, lack, or are too many.
func TestColumnsThatAreTouched(t *testing.T) {
	below := chance(7)
	all := columns()
	found := map[bool]int{}
	for range 20000 {
		l := all[below(len(all))]
		hurt := []byte(putOf(l[:min(len(l), 300)]))
		for range 1 + below(3) {
			at := below(len(hurt) + 1)
			hurt = slices.Replace(hurt, at, min(at+below(2), len(hurt)), make([]byte, below(2))...)
			if at < len(hurt) {
				hurt[at] = []byte{hurt[at] + 1, hurt[at] - 1, hurt[at] ^ 128, byte(below(256))}[below(4)]
			}
		}
		found[asWorded(t, string(hurt), []int{9, 300, mostNumbers}[below(3)])]++
	}
	if found[true] < 1000 || found[false] < 1000 {
		t.Errorf("columns and others: %v", found)
	}
}

// P11.2: the most numbers, in one run and each in its own, and what few bytes that say so many lack.
func TestGetOfTheMostNumbers(t *testing.T) {
	one := columnOf([2]int64{-5, mostNumbers})
	told(t, written(mostNumbers, [2]int64{-5, mostNumbers})+"x", mostNumbers, one, 7, api.OK)
	var runs [][2]int64
	for i := range int64(mostNumbers) {
		runs = append(runs, [2]int64{i%2*math.MinInt64 + 1, 1})
	}
	s := written(mostNumbers, runs...)
	told(t, s+"x", mostNumbers, columnOf(runs...), len(s), api.OK)
	refused(t, number(mostNumbers), mostNumbers, api.ErrShort)
	refused(t, written(mostNumbers, [2]int64{1, mostNumbers - 1}), mostNumbers, api.ErrShort)
	refused(t, written(mostNumbers, [2]int64{1, mostNumbers - 1}, [2]int64{0, 2}), mostNumbers, api.ErrMany)
	refused(t, written(mostNumbers, [2]int64{1, mostNumbers - 1}, [2]int64{1, 1}), mostNumbers, api.ErrForm)
}

// spoil overwrites a list, and the room behind it.
func spoil[T any](l []T, with T) {
	l = l[:cap(l)]
	for i := range l {
		l[i] = with
	}
}

// Rules 5 and 6: what is handed in stays as it was, its spare room too, and no two answers share memory.
func TestAnswersAreNewMemory(t *testing.T) {
	room := []int64{5, 6, 7, 7, 99, 98}
	l := room[:4]
	s, _ := column.Put(l)
	first, second := column.Runs(l), column.Runs(l)
	a, _, _ := column.Get(s, 4)
	b, _, _ := column.Get(s, 4)
	spoil(a, -1)
	spoil(first, [2]int64{-1, -1})
	if !slices.Equal(room, []int64{5, 6, 7, 7, 99, 98}) {
		t.Errorf("what was handed in is now %d", room)
	}
	if !slices.Equal(b, l) || !slices.Equal(second, [][2]int64{{5, 1}, {1, 2}, {0, 1}}) {
		t.Errorf("answers share memory with others: %d, %d", b, second)
	}
	told(t, s, 4, l, len(s), api.OK)
	l[0] = 0
	if again, _ := column.Put(l); again == s || !slices.Equal(b, []int64{5, 6, 7, 7}) {
		t.Errorf("an answer hangs on what was handed in before: %q, %d", again, b)
	}
}
