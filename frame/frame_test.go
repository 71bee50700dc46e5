package frame_test

import (
	"math"
	"slices"
	"strings"
	"testing"
	"unsafe"

	"engross/api"
	"engross/frame"
	"engross/nums"
)

// P7.1: the frame's bytes.
func TestWrapGivesTheLengthTheRowAndTheLastByte(t *testing.T) {
	wraps := func(row, s string) {
		t.Helper()
		if got, e := frame.Wrap(row); got != s || e != api.OK {
			t.Errorf("Wrap of %d bytes, %.20q: %d bytes, %.20q, error %d", len(row), row, len(got), got, e)
		}
	}
	for _, x := range []struct {
		size int
		of   string
	}{
		{1, "\x01"}, {127, "\x7f"}, {128, "\x80\x01"}, {300, "\xac\x02"}, {16383, "\xff\x7f"}, {16384, "\x80\x80\x01"}, {65535, "\xff\xff\x03"}, {65536, "\x80\x80\x04"},
	} {
		row := strings.Repeat("r", x.size)
		wraps(row, x.of+row+"\xa5")
	}
	wraps("ab", "\x02ab\xa5")
	for _, row := range rows() {
		wraps(row, framed(row))
	}
}

// P7.1: rows of no byte, and of too many.
func TestWrapRefuses(t *testing.T) {
	if s, e := frame.Wrap(""); s != "" || e != api.ErrArg {
		t.Errorf("Wrap of no byte: %q, error %d", s, e)
	}
	for _, size := range []int{65537, 65538, 1<<17 - 1, 1 << 17, 1<<17 + 1, 1 << 24} {
		if s, e := frame.Wrap(strings.Repeat("\xa5", size)); s != "" || e != api.ErrMany {
			t.Errorf("Wrap of %d bytes: %.20q, error %d", size, s, e)
		}
	}
}

// P7.2: the frame with which bytes begin, whatever stands behind it.
func TestNextOfFrames(t *testing.T) {
	behind := []string{"", "\x00", "\xa5", "\x80", "\x80\x00", "\xff", "cd", framed("more"), strings.Repeat("\x00", 70000), strings.Repeat("\xa5", 70000)}
	for _, row := range rows() {
		s := framed(row)
		for _, more := range behind {
			next(t, s+more, row, len(s), api.OK)
		}
	}
	next(t, "\x02ab\xa5cd", "ab", 4, api.OK)
}

// P7.2: no byte, and numbers that are none, that end too soon, or that are too great, whatever stands behind them.
func TestNextOfWrongNumbers(t *testing.T) {
	refused(t, "", api.ErrNone)
	nine := strings.Repeat("\xff", 9)
	behind := []string{"", "\x00", "\xa5", "\x80", "ab\xa5", strings.Repeat("\xa5", 70000)}
	for _, s := range []string{"\x80\x00", "\xff\x00", "\xff\xff\x00", "\x80\x80\x80\x00", nine + "\x00", nine + "\x02", nine + "\x80", nine + "\xff", strings.Repeat("\x80", 10)} {
		for _, more := range behind {
			refused(t, s+more, api.ErrForm)
		}
	}
	for size := 1; size < 10; size++ {
		refused(t, strings.Repeat("\x80", size), api.ErrShort)
		refused(t, nine[:size], api.ErrShort)
	}
	for _, n := range []uint64{65537, 65538, 1<<17 - 1, 1 << 17, 1<<17 + 1, 1<<31 - 1, 1 << 31, 1 << 32, 1<<32 + 1, math.MaxInt64, 1 << 63, 1<<63 + 1, math.MaxUint64} {
		for _, more := range behind {
			refused(t, nums.Num(n)+more, api.ErrMany)
		}
	}
	refused(t, framed(strings.Repeat("x", 65537)), api.ErrMany)
}

// P7.2: a frame of no byte, whether or not bytes stand behind it.
func TestNextOfARowOfNone(t *testing.T) {
	for _, more := range []string{"", "\xa5", "\x00", "\x00\xa5", "\xa5\xa5", "\x01a\xa5", framed("ab")} {
		refused(t, "\x00"+more, api.ErrForm)
	}
}

// P7.2: bytes that end ahead of a frame's last one, whatever the last one there is.
func TestNextOfTooFewBytes(t *testing.T) {
	for _, row := range rows() {
		s := framed(row)
		number := len(s) - 1 - len(row)
		for _, end := range []int{1, number - 1, number, number + 1, number + len(row)/2, len(s) - 2, len(s) - 1} {
			if end > 0 && end < len(s) {
				refused(t, s[:end], api.ErrShort)
			}
		}
	}
	for end := 1; end < 302; end++ {
		refused(t, framed(strings.Repeat("\xa5", 300))[:end], api.ErrShort)
	}
}

// P7.2: the last byte is 165, whatever stands behind it.
func TestNextOfAnotherLastByte(t *testing.T) {
	for _, row := range []string{"a", "ab", "\xa5", strings.Repeat("\xa5", 128), strings.Repeat("x", 65536)} {
		s := framed(row)
		for b := range 256 {
			if b == 165 {
				continue
			}
			other := s[:len(s)-1] + string([]byte{byte(b)})
			for _, more := range []string{"", "\xa5", "\xa5\xa5", framed("a")} {
				refused(t, other+more, api.ErrForm)
			}
		}
	}
}

// P7.2, P7.3: all texts of up to six telling bytes, in which each error stands ahead of others.
func TestAllShortTexts(t *testing.T) {
	texts, found := []string{""}, 0
	for i := 0; i < len(texts); i++ {
		s := texts[i]
		if len(s) < 6 {
			for _, b := range []byte{0, 1, 2, 4, 128, 165, 255} {
				texts = append(texts, s+string([]byte{b}))
			}
		}
		found += asWorded(t, s)
	}
	if found < 500 {
		t.Errorf("only %d frames in these texts", found)
	}
}

// P7.2, P7.3: frames, one behind the other, in which some bytes are other ones, lack, or are too many.
func TestFramesThatAreTouched(t *testing.T) {
	x := uint64(7)
	below := func(n int) int {
		x = x*6364136223846793005 + 1442695040888963407
		return int(x >> 33 % uint64(n))
	}
	all := rows()
	counts := map[int]bool{}
	for range 3000 {
		var s strings.Builder
		for range below(9) {
			row := all[below(len(all))]
			s.WriteString(framed(row[:min(len(row), 1+below(400))]))
		}
		hurt := []byte(s.String())
		for range below(3) {
			at := below(len(hurt) + 1)
			hurt = slices.Replace(hurt, at, min(at+below(2), len(hurt)), make([]byte, below(2))...)
			if at < len(hurt) {
				hurt[at] = byte(below(256))
			}
		}
		counts[asWorded(t, string(hurt))] = true
	}
	if len(counts) < 9 {
		t.Errorf("not all counts of frames: %v", counts)
	}
}

// P7.3: the rows, and how many bytes their frames have, up to the first error, and nothing of what stands behind it.
func TestScanStopsAtTheFirstError(t *testing.T) {
	list := []string{"a", "bc", strings.Repeat("\xa5", 130), "\x00", strings.Repeat("\x00", 17000)}
	wrongs := []string{"", "\x00", "\x00\xa5", "\x01b\x00", "\x01", "\x02a", "\x80", "\x80\x00", "\x81\x80\x04", framed(strings.Repeat("x", 65537))}
	ahead := ""
	for k := range len(list) + 1 {
		for _, wrong := range wrongs {
			scanned(t, ahead+wrong, list[:k])
			if wrong != "" {
				scanned(t, ahead+wrong+strings.Repeat("\x01c\xa5", 3), list[:k])
			}
		}
		if k < len(list) {
			ahead += framed(list[k])
		}
	}
}

// P7.3: the greatest rows, and as many small ones as make some mebibytes.
func TestScanOfManyFrames(t *testing.T) {
	great, small := strings.Repeat("g", 65536), "s"
	var s strings.Builder
	var list []string
	for i := range 1 << 20 {
		row := small
		if i%(1<<15) == 0 {
			row = great
		}
		list = append(list, row)
		s.WriteString(framed(row))
	}
	scanned(t, s.String(), list)
}

// torn gives the frame of which kept first bytes are there, then so many noughts.
func torn(s string, kept, noughts int) string {
	return s[:kept] + strings.Repeat("\x00", noughts)
}

// P7.4: of frames of which one is torn, at each of its bytes, and others behind it are torn or whole.
func TestScanTellsWhatIsTorn(t *testing.T) {
	list := []string{"a", "\x01b\xa5", strings.Repeat("\xa5", 128), strings.Repeat("\x00", 200), framed(strings.Repeat("c", 300))}
	ahead := ""
	for k, row := range list {
		s := framed(row)
		for kept := range s {
			for _, behind := range [][]string{nil, {"d"}, list[:k], list[k:], list} {
				rest, tornRest := "", ""
				for _, row := range behind {
					rest += framed(row)
					tornRest += torn(framed(row), len(row)/2, len(framed(row))-len(row)/2)
				}
				hurt := torn(s, kept, len(s)-kept)
				scanned(t, ahead+hurt+rest, list[:k])
				scanned(t, ahead+hurt+tornRest, list[:k])
				scanned(t, ahead+hurt+hurt+rest, list[:k])
			}
		}
		ahead += s
	}
	scanned(t, ahead, list)
}

// P7.4: a frame at the end of all bytes that is torn there, with no noughts, or with some and then nothing.
func TestScanTellsWhatIsTornAtTheEnd(t *testing.T) {
	list := []string{"a", "\xa5\xa5", strings.Repeat("\xa5", 128), strings.Repeat("b", 16384), strings.Repeat("\x01c\xa5", 100)}
	ahead := ""
	for k, row := range list {
		s := framed(row)
		step := max(1, len(s)/300)
		for kept := 0; kept < len(s); kept += step {
			for _, noughts := range []int{0, 1, 2, 3, (len(s) - kept) / 2, len(s) - kept - 1} {
				if kept+noughts < len(s) && noughts >= 0 {
					scanned(t, ahead+torn(s, kept, noughts), list[:k])
				}
			}
		}
		scanned(t, ahead+s[:len(s)-1], list[:k])
		ahead += s
	}
}

// P7.4: rows of some greatest bytes, torn at the edges of their number and of their end.
func TestScanTellsGreatRowsThatAreTorn(t *testing.T) {
	for _, row := range rows() {
		s := framed(row)
		for _, kept := range []int{0, 1, 2, 3, 4, len(s) / 2, len(s) - 2, len(s) - 1} {
			if kept >= 0 && kept < len(s) {
				scanned(t, framed("ab")+torn(s, kept, len(s)-kept)+s, []string{"ab"})
				scanned(t, framed("ab")+s[:kept], []string{"ab"})
			}
		}
	}
}

// Rule 5: rows are new memory, each for itself, in each answer.
func TestRowsAreNewMemory(t *testing.T) {
	s := strings.Repeat(framed(strings.Repeat("row", 20)), 4)
	from := uintptr(unsafe.Pointer(unsafe.StringData(s)))
	first, _ := frame.Scan(s)
	second, _ := frame.Scan(s)
	row, _, _ := frame.Next(s)
	seen := map[uintptr]bool{}
	for _, got := range slices.Concat(first, second, []string{row}) {
		at := uintptr(unsafe.Pointer(unsafe.StringData(got)))
		if at >= from && at < from+uintptr(len(s)) || seen[at] {
			t.Errorf("%.20q lies where another text does", got)
		}
		seen[at] = true
	}
	first[0] = "other"
	if third, n := frame.Scan(s); third[0] != second[0] || n != len(s) {
		t.Error("an answer hangs on another one")
	}
}
