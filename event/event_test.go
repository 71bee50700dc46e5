package event_test

import (
	"math"
	"slices"
	"strings"
	"testing"

	"engross/api"
	"engross/event"
)

// wrong are bytes with which no number goes on.
var wrong = []string{"\x80\x00", "\xff\xff\x00", strings.Repeat("\x80", 9) + "\x00", strings.Repeat("\xff", 9) + "\x02", strings.Repeat("\x80", 10), strings.Repeat("\xff", 11)}

// P6.1: the bytes written out, of zero things ahead of all.
func TestPutGivesTheNumbersInOrder(t *testing.T) {
	events.puts(t, api.Event{}, strings.Repeat("\x00", 7))
	verdicts.puts(t, api.Verdict{}, "\x00\x00")
	pairs.puts(t, api.Pair{}, strings.Repeat("\x00", 9))
	p := api.Pair{
		Event:   api.Event{Kind: api.Order, Acc: -1, Ord: 2, Sym: -3, Side: 1, Qty: 300, Price: math.MinInt64},
		Verdict: api.Verdict{Code: api.NoMargin, Need: -64},
	}
	s, v := "\x08\x01\x04\x05\x02\xd8\x04\xff\xff\xff\xff\xff\xff\xff\xff\xff\x01", "\x16\x7f"
	events.puts(t, p.Event, s)
	verdicts.puts(t, p.Verdict, v)
	pairs.puts(t, p, s+v)
	events.gets(t, s, p.Event)
	verdicts.gets(t, v, p.Verdict)
	pairs.gets(t, s+v, p)
}

// P6.1: each field stands in its place, whatever it is, and whatever kind and code there are.
func TestPutOfAnyNumbers(t *testing.T) {
	for _, n := range samples() {
		events.puts(t, n.event(), written(n[:ofEvent]...))
		verdicts.puts(t, n.verdict(), written(n[ofEvent:]...))
		pairs.puts(t, n.pair(), written(n[:]...))
	}
}

// P6.1: bytes that end too soon, at each place.
func TestGetOfBytesThatEndTooSoon(t *testing.T) {
	events.refuses(t, "", api.ErrShort)
	verdicts.refuses(t, "", api.ErrShort)
	pairs.refuses(t, "", api.ErrShort)
	for _, n := range samples() {
		s := event.PutPair(n.pair())
		size := len(event.Put(n.event()))
		for i := range s {
			pairs.refuses(t, s[:i], api.ErrShort)
			if i < size {
				events.refuses(t, s[:i], api.ErrShort)
			} else {
				verdicts.refuses(t, s[size:i], api.ErrShort)
			}
		}
	}
}

// P6.1: a number that isn't one, at each place: it is told whatever stands behind it, also where that is too little, too much or wrong itself.
func TestGetOfNumbersThatAreNone(t *testing.T) {
	n := numbers{4, 1, -2, 300, 1, math.MaxInt64, math.MinInt64, 11, -1}
	for place := range ofPair {
		ahead, behind := written(n[:place]...), written(n[place+1:]...)
		for _, none := range wrong {
			for _, rest := range []string{"", "\x00", "\x80", "\xff\xff", "\x80\x00", behind, behind + "\x00", behind + "\x80"} {
				s := ahead + none + rest
				pairs.refuses(t, s, api.ErrForm)
				if place < ofEvent {
					events.refuses(t, s, api.ErrForm)
				} else {
					verdicts.refuses(t, s[len(written(n[:ofEvent]...)):], api.ErrForm)
				}
			}
		}
	}
}

// P6.1: whatever more stands behind the bytes.
func TestGetOfMoreBytes(t *testing.T) {
	for _, n := range samples()[:40] {
		e, v, p := event.Put(n.event()), event.PutVerdict(n.verdict()), event.PutPair(n.pair())
		more := append([]string{e, v, p}, wrong...)
		for b := range 256 {
			more = append(more, string([]byte{byte(b)}))
		}
		for _, behind := range more {
			events.refuses(t, e+behind, api.ErrForm)
			verdicts.refuses(t, v+behind, api.ErrForm)
			pairs.refuses(t, p+behind, api.ErrForm)
		}
	}
}

// P6.1: the bytes of one kind of things aren't those of another.
func TestGetOfOtherThings(t *testing.T) {
	for _, n := range samples() {
		e, v, p := event.Put(n.event()), event.PutVerdict(n.verdict()), event.PutPair(n.pair())
		events.refuses(t, v, api.ErrShort)
		events.refuses(t, p, api.ErrForm)
		verdicts.refuses(t, e, api.ErrForm)
		verdicts.refuses(t, p, api.ErrForm)
		pairs.refuses(t, e, api.ErrShort)
		pairs.refuses(t, v, api.ErrShort)
	}
}

// P6.3: what is put is got again.
func TestWhatIsPutIsGot(t *testing.T) {
	for _, n := range samples() {
		events.gets(t, event.Put(n.event()), n.event())
		verdicts.gets(t, event.PutVerdict(n.verdict()), n.verdict())
		pairs.gets(t, event.PutPair(n.pair()), n.pair())
	}
}

// onlyPut fails where something is got of s that isn't put as s.
func (c calls[T]) onlyPut(t *testing.T, s string) {
	t.Helper()
	if got, e := c.get(s); e == api.OK && c.put(got) != s {
		t.Errorf("%s of %q: %v, whose bytes are %q", c.name, s, got, c.put(got))
	}
}

// P6.3: nothing else is got: of bytes with one byte other, more or less, only the thing that is put so.
func TestNothingElseIsGot(t *testing.T) {
	all := samples()
	for _, n := range append(all[:20:20], all[len(all)-60:]...) {
		s := event.PutPair(n.pair())
		size := len(event.Put(n.event()))
		for i := range len(s) + 1 {
			near := []string{s[:max(i-1, 0)] + s[i:]}
			for b := range 256 {
				one := string([]byte{byte(b)})
				near = append(near, s[:i]+one+s[i:], s[:i]+one+s[min(i+1, len(s)):])
			}
			for _, other := range near {
				pairs.onlyPut(t, other)
				events.onlyPut(t, other[:min(size, len(other))])
				verdicts.onlyPut(t, other[min(size, len(other)):])
			}
		}
	}
}

// fault tells why two numbers with a sign aren't read from a text of less than ten bytes.
func fault(s string) api.Errno {
	for range 2 {
		last := slices.IndexFunc([]byte(s), func(b byte) bool { return b < 128 })
		switch {
		case last < 0:
			return api.ErrShort
		case last > 0 && s[last] == 0:
			return api.ErrForm
		}
		s = s[last+1:]
	}
	if s != "" {
		return api.ErrForm
	}
	return api.OK
}

// P6.1, P6.3: of all texts of up to five telling bytes, a verdict is got of just those that are one's bytes.
func TestVerdictsOfShortTexts(t *testing.T) {
	texts, count := []string{""}, 0
	for i := 0; i < len(texts); i++ {
		s := texts[i]
		if len(s) < 5 {
			for _, b := range []byte{0, 1, 2, 126, 127, 128, 129, 254, 255} {
				texts = append(texts, s+string([]byte{b}))
			}
		}
		if e := fault(s); e != api.OK {
			verdicts.refuses(t, s, e)
			continue
		}
		count++
		v, e := event.GetVerdict(s)
		if put := event.PutVerdict(v); e != api.OK || put != s {
			t.Errorf("GetVerdict of %q: %v, error %d, whose bytes are %q", s, v, e, put)
		}
	}
	if count < 1000 {
		t.Errorf("only %d of the texts are verdicts", count)
	}
}
