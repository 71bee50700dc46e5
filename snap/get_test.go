package snap_test

import (
	"math"
	"slices"
	"strings"
	"testing"

	"engross/api"
)

// Bytes with which no number goes on, and ones that end ahead of a number's last digit.
var (
	none = []string{"\x80\x00", "\xff\x00", "\xff\xff\x00", strings.Repeat("\x80", 9) + "\x00", strings.Repeat("\xff", 9) + "\x02", strings.Repeat("\x80", 10), strings.Repeat("\xff", 11)}
	ends = []string{"", "\x80", "\xff", "\x80\x80", strings.Repeat("\xff", 9)}
)

// P13.2: layer 1's faults of Count, whatever stands behind it.
func TestGetOfWrongCounts(t *testing.T) {
	behinds := []string{"", "\x00", "\x21", "\x80\x00", strings.Repeat("\x00", 15), strings.Repeat("\x00", 16), "\x01\x00\x00", columnsOf(sample()).part(0, 15)}
	for _, behind := range behinds {
		for _, s := range none {
			refused(t, s+behind, api.ErrForm)
		}
		for _, n := range []uint64{1<<40 + 1, 1 << 41, 1<<62 + 1, 1 << 63, 1<<63 + 5, math.MaxUint64} {
			refused(t, number(n)+behind, api.ErrMany)
		}
	}
	for _, s := range ends {
		refused(t, s, api.ErrShort)
	}
	for _, n := range []uint64{0, 1, 127, 128, 1<<40 - 1, 1 << 40} {
		told(t, number(n)+strings.Repeat("\x00", 15), api.Book{Count: int64(n)}, api.OK)
	}
}

// wrongColumns are bytes with each of layer 11's errors, by them, where at most so many numbers may come. None of ErrShort stands ahead of others.
func wrongColumns(most int) map[api.Errno][]string {
	form := slices.Clone(none)
	for _, s := range none {
		form = append(form, "\x02"+s, "\x02\x05"+s, "\x02\x05\x01\x03"+s)
	}
	form = append(form, "\x01\x05\x00", "\x02\x05\x01\x05\x01", "\x02\x05\x01\x06\x00", "\x01\x00\x00")
	many := []string{"\x01\x05\x02", "\x02\x05\x01\x06\x02", "\x01\x05" + number(math.MaxUint64)}
	for _, n := range []int{most + 1, most + 2, most + 128, 2 * most, 65536, 65537, 1 << 32, math.MaxInt} {
		many = append(many, number(uint64(n)), number(uint64(n))+"\x02"+number(uint64(n)))
	}
	many = append(many, number(math.MaxUint64), number(1<<32+1), number(1<<63))
	short := slices.Clone(ends)
	short = append(short, "\x01", "\x01\x05", "\x01\x80", "\x01\x05\x80", "\x02\x05\x01", "\x02\x05\x01\x06", number(uint64(most)), number(uint64(most))+"\x02")
	return map[api.Errno][]string{api.ErrForm: form, api.ErrMany: many, api.ErrShort: short}
}

// aheads gives what may stand ahead of a column: the columns of some books, even ones and uneven ones.
func aheads() []columns {
	var list []columns
	for _, b := range []api.Book{{}, sample(), fullest(), wrongBooks()[5]} {
		list = append(list, columnsOf(b))
	}
	uneven := columnsOf(sample())
	for i := range uneven {
		uneven[i] = uneven[i][:i%3]
	}
	return append(list, uneven)
}

// P13.2: of each column layer 11's errors, whatever stands behind it, and also where the columns ahead are uneven.
func TestGetOfWrongColumns(t *testing.T) {
	for _, ahead := range aheads() {
		for i := range ahead {
			s := number(300) + ahead.part(0, i)
			wrong := wrongColumns(mosts[i])
			for _, behind := range []string{"", "\x00", "\x80\x00", strings.Repeat("\x00", 20), ahead.part(i+1, 15), ahead.part(i+1, 15) + "x"} {
				for _, e := range []api.Errno{api.ErrForm, api.ErrMany} {
					for _, x := range wrong[e] {
						refused(t, s+x+behind, e)
					}
				}
			}
			for _, x := range wrong[api.ErrShort] {
				refused(t, s+x, api.ErrShort)
			}
		}
	}
}

// P13.2: as many numbers as a column may have are no fault of its own, so that one of the last column is told; one more is.
func TestGetOfTheMostNumbers(t *testing.T) {
	for i := range mosts {
		c := columnsOf(sample())
		c[i] = make([]int64, mosts[i])
		s := c.text(7)
		refused(t, s, api.ErrForm)
		refused(t, s[:len(s)-1], api.ErrShort)
		c[i] = make([]int64, mosts[i]+1)
		s = c.text(7)
		refused(t, s, api.ErrMany)
		refused(t, s[:len(s)-1], api.ErrMany)
	}
	told(t, textOf(fullest()), fullest(), api.OK)
}

// P13.2: of two wrong columns the first one is told.
func TestGetOfTwoWrongColumns(t *testing.T) {
	c := columnsOf(sample())
	for i := range c {
		for j := range i {
			for _, e := range []api.Errno{api.ErrForm, api.ErrMany} {
				for _, f := range []api.Errno{api.ErrForm, api.ErrMany, api.ErrShort} {
					first, second := wrongColumns(mosts[j])[e], wrongColumns(mosts[i])[f]
					s := number(300) + c.part(0, j) + first[len(first)-1] + c.part(j+1, i) + second[len(second)-1]
					refused(t, s, e)
				}
			}
		}
	}
}

// P13.2: ErrForm, if more bytes stand behind.
func TestGetOfMoreBytes(t *testing.T) {
	for _, b := range books()[:40] {
		for _, behind := range []string{"\x00", "\x01", "\x80", "\xff", "\x00\x00", textOf(b), textOf(api.Book{})} {
			refused(t, textOf(b)+behind, api.ErrForm)
		}
	}
}

// P13.2: bytes that end too soon, at each byte.
func TestGetOfBytesThatEndTooSoon(t *testing.T) {
	for _, b := range books()[:40] {
		s := textOf(b)
		for end := 0; end < len(s); end += max(1, len(s)/300) {
			refused(t, s[:end], api.ErrShort)
		}
		refused(t, s[:len(s)-1], api.ErrShort)
	}
}

// others gives columns like l, but with fewer numbers or more, all the others being as they are.
func others(l []int64) [][]int64 {
	list := [][]int64{append(slices.Clone(l), 1), append(slices.Clone(l), 9, 9)}
	if len(l) > 0 {
		list = append(list, nil, l[:len(l)-1], l[1:], append([]int64{l[0]}, l...))
	}
	return list
}

// P13.2: ErrForm, if columns of one list haven't as many numbers, whichever of them it is.
func TestGetOfUnevenColumns(t *testing.T) {
	for _, b := range []api.Book{{}, sample(), grown(1, 1, 1, 100, chance(5)), grown(3, 3, 9, 50, chance(6))} {
		c := columnsOf(b)
		for i := range c {
			for _, l := range others(c[i]) {
				d := c.twin()
				d[i] = l
				s := d.text(uint64(b.Count))
				refused(t, s, api.ErrForm)
				refused(t, s+"\x00", api.ErrForm)
				refused(t, s[:len(s)-1], api.ErrShort)
			}
		}
	}
}

// P13.2: even where the columns, cut to the shortest, or with noughts behind, would be those of a book that may be.
func TestGetOfUnevenColumnsOfABookThatMightBe(t *testing.T) {
	for _, b := range []api.Book{grown(4, 4, 0, 0, chance(7)), grown(2, 2, 0, 0, chance(8)), grown(1, 1, 0, 0, chance(9))} {
		c := columnsOf(b)
		for i := range c {
			if len(c[i]) == 0 {
				continue
			}
			for _, to := range []int{0, len(c[i]) - 1} {
				d := c.twin()
				d[i] = d[i][:to]
				refused(t, d.text(5), api.ErrForm)
			}
			d := c.twin()
			d[i] = append(d[i], 8<<40)
			refused(t, d.text(5), api.ErrForm)
		}
	}
	for _, i := range []int{1, 2, 3} {
		c := columnsOf(api.Book{})
		c[0] = []int64{5}
		c[i] = []int64{0}
		refused(t, c.text(5), api.ErrForm)
		c[0], c[1], c[2], c[3] = []int64{5}, []int64{0}, []int64{0}, []int64{0}
		told(t, c.text(5), api.Book{Holders: []api.Holder{{Id: 5}}, Count: 5}, api.OK)
		c[i] = []int64{0, 0}
		refused(t, c.text(5), api.ErrForm)
		c[i] = nil
		refused(t, c.text(5), api.ErrForm)
	}
}

// P13.2, P13.3: all fifteen columns out of few, so that lists are even and uneven, and books may be or not.
func TestFewColumns(t *testing.T) {
	below := chance(31)
	found := map[api.Errno]int{}
	of := [][]int64{nil, {0}, {1}, {1, 2}, {2, 1}, {1, 1}}
	for range 60000 {
		var c columns
		for i := range c {
			switch {
			case firsts[i] != i && below(8) > 0:
				// Mostly as many numbers as the list's first column has.
				for range c[firsts[i]] {
					c[i] = append(c[i], int64(1+below(3)/2))
				}
			default:
				c[i] = of[below(len(of))]
			}
		}
		found[asWorded(t, c.text(uint64(below(300))))]++
	}
	if found[api.OK] < 50 || found[api.ErrForm] < 1000 {
		t.Errorf("books and others: %v", found)
	}
}

// P13.2, P13.3: books in whose bytes some are other ones, lack, or are too many.
func TestBytesThatAreTouched(t *testing.T) {
	below := chance(17)
	all := books()
	found := map[api.Errno]int{}
	for range 60000 {
		hurt := []byte(textOf(all[below(len(all))]))
		if len(hurt) > 2000 && below(20) > 0 {
			continue
		}
		for range 1 + below(3) {
			at := below(len(hurt) + 1)
			if below(3) == 0 {
				hurt = slices.Replace(hurt, at, min(at+below(2), len(hurt)), make([]byte, below(2))...)
			}
			if at < len(hurt) {
				hurt[at] = []byte{hurt[at] + 1, hurt[at] - 1, hurt[at] ^ 128, byte(below(256))}[below(4)]
			}
		}
		found[asWorded(t, string(hurt))]++
	}
	for _, e := range []api.Errno{api.OK, api.ErrShort, api.ErrForm, api.ErrMany} {
		if found[e] < 200 {
			t.Errorf("books and others: %v", found)
		}
	}
}

// P13.3: no other bytes are got as a book: of each of its numbers touched alone another book is told, or none.
func TestNumbersThatAreTouched(t *testing.T) {
	for _, b := range []api.Book{sample(), grown(2, 2, 3, 100, chance(19)), grown(1, 2, 3, 50, chance(20))} {
		c, s := columnsOf(b), textOf(b)
		for i := range c {
			for j := range c[i] {
				for _, n := range append(edges(), c[i][j]-1, c[i][j]+1, -c[i][j], c[i][j]+1<<32, c[i][j]^least) {
					d := c.twin()
					d[i][j] = n
					if x := d.text(uint64(b.Count)); x != s {
						asWorded(t, x)
						if got, _ := wanted(x); columnsOf(got).text(uint64(got.Count)) == s {
							t.Errorf("%q and %q are one book", x, s)
						}
					}
				}
			}
		}
	}
}
