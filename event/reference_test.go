package event_test

import (
	"math"
	"testing"

	"engross/api"
	"engross/event"
)

// What the package is held against: the chapter's words, over a pair's numbers as a list.

// How many numbers things have.
const (
	ofEvent = 7
	ofPair  = 9
)

// numbers are a pair's, in the order of its bytes.
type numbers [ofPair]int64

func (n numbers) event() api.Event {
	return api.Event{Kind: int(n[0]), Acc: n[1], Ord: n[2], Sym: n[3], Side: int(n[4]), Qty: n[5], Price: n[6]}
}

func (n numbers) verdict() api.Verdict { return api.Verdict{Code: int(n[7]), Need: n[8]} }

func (n numbers) pair() api.Pair { return api.Pair{Event: n.event(), Verdict: n.verdict()} }

// written gives the bytes of numbers with a sign, by division.
func written(list ...int64) string {
	var out []byte
	for _, n := range list {
		in := 2 * uint64(n)
		if n < 0 {
			in = 2*uint64(-(n+1)) + 1
		}
		for ; in > 127; in /= 128 {
			out = append(out, byte(in%128)+128)
		}
		out = append(out, byte(in))
	}
	return string(out)
}

// edges are numbers at the ends of what fits, and of each length of a number's bytes, with both signs.
func edges() []int64 {
	list := []int64{0, -1, 1, 2, 13, 14, math.MaxInt64, math.MaxInt64 - 1, math.MinInt64, math.MinInt64 + 1}
	for shift := 6; shift < 63; shift += 7 {
		edge := int64(1) << shift
		list = append(list, edge-1, edge, -edge, -edge-1)
	}
	return list
}

// samples are numbers of pairs: all noughts, each edge at each place alone, each edge at all places, and some of all sizes.
func samples() []numbers {
	list := []numbers{{}}
	for _, edge := range edges() {
		var all numbers
		for i := range all {
			var alone numbers
			alone[i], all[i] = edge, edge
			list = append(list, alone)
		}
		list = append(list, all)
	}
	x := uint64(6)
	for range 500 {
		var mixed numbers
		for i := range mixed {
			x = x*6364136223846793005 + 1442695040888963407
			mixed[i] = int64(x) >> (x >> 33 % 64)
		}
		list = append(list, mixed)
	}
	return list
}

// calls are those for one kind of things.
type calls[T comparable] struct {
	name string
	put  func(T) string
	get  func(string) (T, api.Errno)
}

var (
	events   = calls[api.Event]{"Get", event.Put, event.Get}
	verdicts = calls[api.Verdict]{"GetVerdict", event.PutVerdict, event.GetVerdict}
	pairs    = calls[api.Pair]{"GetPair", event.PutPair, event.GetPair}
)

// puts fails where other bytes are put of the thing than s.
func (c calls[T]) puts(t *testing.T, thing T, s string) {
	t.Helper()
	if got := c.put(thing); got != s {
		t.Errorf("%s of %v: %q, not %q", c.name, thing, got, s)
	}
}

// gets fails where not just the thing is got of s.
func (c calls[T]) gets(t *testing.T, s string, thing T) {
	t.Helper()
	if got, e := c.get(s); got != thing || e != api.OK {
		t.Errorf("%s of %q: %v, error %d, not %v", c.name, s, got, e, thing)
	}
}

// refuses fails where not just the error, and a zero thing beside it, is got of s.
func (c calls[T]) refuses(t *testing.T, s string, e api.Errno) {
	t.Helper()
	var zero T
	if got, f := c.get(s); got != zero || f != e {
		t.Errorf("%s of %q: %v, error %d, not error %d", c.name, s, got, f, e)
	}
}
