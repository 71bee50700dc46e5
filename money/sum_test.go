package money_test

import (
	"math"
	"math/big"
	"slices"
	"strconv"
	"testing"

	"engross/money"
)

// rates are the ends of what a rate may be, and some between; wrong are others.
var (
	rates = []int{0, 1, 2, 3, 20, 33, 49, 50, 51, 99, 100, 101, 150, 333, 999, 1000}
	wrong = []int{-1, -2, -50, -100, -1000, 1001, 1002, 1100, 5000, 1 << 31, 1 << 32, 1<<32 + 50, math.MaxInt, math.MinInt, math.MinInt + 50}
)

// holds fails where the sum isn't the number, or one of its shares isn't that of it.
func holds(t *testing.T, s *money.Sum, want *big.Int, args ...any) {
	t.Helper()
	n, fits := fitting(want)
	got, ok := s.Total()
	told(t, got, ok, n, fits, "Total", args...)
	for _, rate := range slices.Concat(rates, wrong) {
		n, fits := shareOf(want, rate)
		got, ok := s.Share(rate)
		told(t, got, ok, n, fits, "Share "+strconv.Itoa(rate), args...)
	}
}

// of gives a sum of numbers.
func of(list ...int64) *money.Sum {
	var s money.Sum
	for _, a := range list {
		s.Add(a)
	}
	return &s
}

// P5.2: a zero sum is 0, and all that is asked of it leaves it so.
func TestZeroSum(t *testing.T) {
	var s money.Sum
	holds(t, &s, new(big.Int), "nothing")
	holds(t, &s, new(big.Int), "nothing, again")
	s.Add(0)
	s.AddMul(0, least)
	s.AddMul(most, 0)
	holds(t, &s, new(big.Int), "noughts")
	if s != (money.Sum{}) {
		t.Error("a sum of noughts isn't a zero one")
	}
}

// P5.2: to nil nothing is added, and of it there is nothing to be told.
func TestNilSum(t *testing.T) {
	var s *money.Sum
	s.Add(5)
	s.AddMul(5, 5)
	got, ok := s.Total()
	told(t, got, ok, 0, false, "Total", "nil")
	for _, rate := range slices.Concat(rates, wrong) {
		got, ok := s.Share(rate)
		told(t, got, ok, 0, false, "Share "+strconv.Itoa(rate), "nil")
	}
}

// P5.2: the chapter's examples.
func TestSumOfTheExamples(t *testing.T) {
	var s money.Sum
	s.AddMul(1<<62, 4)
	if n, ok := s.Total(); n != 0 || ok {
		t.Errorf("2^64: %d %v", n, ok)
	}
	s.AddMul(-1<<62, 4)
	if n, ok := s.Total(); n != 0 || !ok {
		t.Errorf("2^64 less 2^64: %d %v", n, ok)
	}
	if n, ok := of(101).Share(50); n != 51 || !ok {
		t.Errorf("a half of 101: %d %v", n, ok)
	}
}

// P5.2: one thing of each kind, with all edges.
func TestSumOfOneThing(t *testing.T) {
	for _, a := range edges() {
		holds(t, of(a), big64(a), a)
	}
	for _, a := range edges() {
		for _, b := range few() {
			s, want := sumOf([]thing{{product: true, a: a, b: b}})
			holds(t, s, want, a, b)
		}
	}
}

// P5.2: what was asked for is added to what was there, also where that doesn't fit meanwhile, and Total and Share change nothing.
func TestSumOfManyThings(t *testing.T) {
	list := numbers(9000, 4)
	s, want := &money.Sum{}, new(big.Int)
	for i := 0; i < len(list); i += 3 {
		for _, x := range addends(list[i], list[i+1], list[i+2]) {
			x.addTo(s)
			want.Add(want, x.worth())
		}
		holds(t, s, want, "the first", i+3, "numbers")
	}
	for _, a := range few() {
		for _, b := range few() {
			for _, c := range few() {
				s, want := sumOf(addends(a, b, c))
				holds(t, s, want, a, b, c)
			}
		}
	}
}

// P5.2: sums about the ends of what fits, and about each end of a word beyond.
func TestTotalAboutTheEnds(t *testing.T) {
	for shift := uint(60); shift <= 140; shift++ {
		for _, sign := range []int64{1, -1} {
			power := new(big.Int).Mul(big64(sign), new(big.Int).Lsh(big64(1), shift))
			for _, by := range few() {
				want := new(big.Int).Add(power, big64(by))
				holds(t, built(want), want, "2 to the", shift, "times", sign, "and", by)
			}
		}
	}
}

// P5.2: shares of the numbers from 0 on, with each rate that there is: rounded up to the next whole number that isn't less.
func TestShareOfEachRate(t *testing.T) {
	for n := int64(0); n <= 300; n++ {
		s := of(n)
		for rate := 0; rate <= 1000; rate++ {
			want := n * int64(rate) / 100
			if want*100 < n*int64(rate) {
				want++
			}
			got, ok := s.Share(rate)
			told(t, got, ok, want, true, "Share "+strconv.Itoa(rate), n)
		}
	}
}

// P5.2: a share that just fits, and one that just doesn't, by the rounding alone too; the sum itself needn't fit.
func TestShareAboutTheEnd(t *testing.T) {
	for _, x := range []struct {
		list  []int64
		rate  int
		share int64
		fits  bool
	}{
		{[]int64{most}, 100, most, true}, {[]int64{most}, 101, 0, false}, {[]int64{most, 1}, 100, 0, false}, {[]int64{most, 1}, 99, 9131138316486228050, true},
		{[]int64{most, most}, 50, most, true}, {[]int64{most, most, 1}, 50, 0, false}, {[]int64{most, most, most}, 33, 9131138316486228049, true},
		{[]int64{922337203685477580}, 1000, most - 7, true}, {[]int64{922337203685477581}, 1000, 0, false},
		{[]int64{least}, 0, 0, false}, {[]int64{-1}, 0, 0, false}, {[]int64{-1}, 100, 0, false}, {[]int64{-1, 1}, 0, 0, true},
	} {
		got, ok := of(x.list...).Share(x.rate)
		told(t, got, ok, x.share, x.fits, "Share "+strconv.Itoa(x.rate), x.list)
	}
	for rate := 1; rate <= 1000; rate++ {
		// The greatest number whose share fits.
		last := new(big.Int).Div(new(big.Int).Mul(big64(most), big64(100)), big64(int64(rate)))
		for near := int64(-2); near <= 2; near++ {
			want := new(big.Int).Add(last, big64(near))
			_, fits := shareOf(want, rate)
			if fits != (near <= 0) {
				t.Fatal("this isn't the end of the rate", rate)
			}
			s := built(want)
			holds(t, s, want, "the end of the rate", rate, "and", near)
			n, fits := shareOf(want, rate)
			got, ok := s.Share(rate)
			told(t, got, ok, n, fits, "Share "+strconv.Itoa(rate), want)
		}
	}
}

// P5.2: sums so great that what is made on the way to a share leaves its lower words, or has noughts in them, have none.
func TestShareOfSumsBeyondAWord(t *testing.T) {
	for rate := 1; rate <= 1000; rate++ {
		for _, times := range []int64{1, 2, 99, 100, 101, 1000} {
			end := new(big.Int).Lsh(big64(times), 128)
			end.Div(end, big64(int64(rate)))
			for _, near := range []int64{least, -1, 0, 1, most} {
				want := new(big.Int).Add(end, big64(near))
				n, fits := shareOf(want, rate)
				got, ok := built(want).Share(rate)
				told(t, got, ok, n, fits, "Share "+strconv.Itoa(rate), want)
			}
		}
	}
}

// P5.2: whatever its sign, a rate that isn't from 0 to MaxRate has no share, of nothing neither.
func TestShareOfOtherRates(t *testing.T) {
	for _, n := range []int64{0, 1, 100, -5, most, least} {
		for _, rate := range wrong {
			got, ok := of(n).Share(rate)
			told(t, got, ok, 0, false, "Share "+strconv.Itoa(rate), n)
		}
	}
}

// P5.3: in all orders of some things, the sum is the same.
func TestEachOrder(t *testing.T) {
	for _, things := range [][]thing{
		{{a: most}, {a: most}, {a: least}, {a: least}, {a: 2}},
		{{product: true, a: least, b: least}, {product: true, a: least, b: least}, {product: true, a: least, b: most}, {product: true, a: most, b: least}, {a: least}},
		{{product: true, a: 1 << 62, b: 4}, {a: -1}, {product: true, a: -1 << 62, b: 4}, {a: 1}, {a: -1}, {product: true, a: -1, b: -1}},
		{{a: -1}, {a: 1}, {product: true, a: most, b: most}, {product: true, a: least, b: most}, {a: most}},
	} {
		first, want := sumOf(things)
		count := 0
		orders(things, 0, func() {
			s, _ := sumOf(things)
			holds(t, s, want, things)
			if *s != *first {
				t.Errorf("another sum of %v", things)
			}
			count++
		})
		if count < 120 {
			t.Errorf("%d orders of %d things", count, len(things))
		}
	}
}

// orders calls do with the things behind the first ones in each order, and leaves them as they were.
func orders(things []thing, first int, do func()) {
	if first == len(things) {
		do()
		return
	}
	for i := first; i < len(things); i++ {
		things[first], things[i] = things[i], things[first]
		orders(things, first+1, do)
		things[first], things[i] = things[i], things[first]
	}
}

// P5.3: many things forwards, backwards and by their size.
func TestManyThingsInOtherOrders(t *testing.T) {
	var things []thing
	list := numbers(3000, 5)
	for i := 0; i < len(list); i += 3 {
		things = append(things, addends(list[i], list[i+1], list[i+2])...)
	}
	first, want := sumOf(things)
	holds(t, first, want, "forwards")
	slices.Reverse(things)
	s, _ := sumOf(things)
	holds(t, s, want, "backwards")
	slices.SortFunc(things, func(x, y thing) int { return x.worth().Cmp(y.worth()) })
	s, _ = sumOf(things)
	holds(t, s, want, "the least first")
}

// P5.2: as many things as may be added to one sum: half of them as great as products of two signs can be, the other half what takes them back. (Some seconds.)
func TestSumOfAsManyAsMayBe(t *testing.T) {
	var s money.Sum
	half := int64(1<<31 - 1)
	for range half {
		s.AddMul(most, -most)
	}
	all := new(big.Int).Mul(big64(most), big64(-most))
	holds(t, &s, all.Mul(all, big64(half)), "half of 2^32 things")
	for range half {
		s.AddMul(-most, -most)
	}
	s.Add(101)
	s.AddMul(-1, 1)
	holds(t, &s, big64(100), "2^32 things")
}

// Rule 6: sums to which the same was added are the same, and a copy of one goes its own way.
func TestSumsStandAlone(t *testing.T) {
	s := of(5, 7)
	other := *s
	other.AddMul(least, least)
	holds(t, s, big64(12), "5 and 7")
	if *s != *of(7, 5) || *s == other {
		t.Error("sums hang on each other")
	}
	s.Add(-12)
	holds(t, of(), new(big.Int), "nothing")
}
