package event_test

import (
	"math"
	"testing"

	"engross/api"
	"engross/event"
)

// P6.2: the kinds' names, by their numbers.
func TestNameOfEachKind(t *testing.T) {
	for kind, want := range []string{"?", "account", "limit", "quote", "order", "fill", "cancel", "snap", "?"} {
		if got := event.Name(kind); got != want {
			t.Errorf("Name(%d): %q, not %q", kind, got, want)
		}
	}
	if event.Name(api.Account) != "account" || event.Name(api.Snap) != "snap" {
		t.Error("the kinds have other numbers")
	}
}

// P6.2: the codes' names, by their numbers.
func TestReasonOfEachCode(t *testing.T) {
	for code, want := range []string{
		"accept", "kind", "value", "no account", "account there", "order there", "no order", "no price", "full",
		"order too great", "position too great", "margin", "overflow", "unavailable", "?",
	} {
		if got := event.Reason(code); got != want {
			t.Errorf("Reason(%d): %q, not %q", code, got, want)
		}
	}
	if event.Reason(api.Accept) != "accept" || event.Reason(api.Unavailable) != "unavailable" {
		t.Error("the codes have other numbers")
	}
}

// P6.2: all others have a ?, also those that are a number with a name in fewer bits.
func TestNamesOfOthers(t *testing.T) {
	for _, n := range []int{-1, -2, -7, -13, -128, 14, 15, 99, 127, 128, 255, 256, 257, 1 << 16, 1<<32 + 1, -1<<32 + 4, math.MaxInt, math.MaxInt - 1, math.MinInt, math.MinInt + 1, math.MinInt + 4} {
		if name, reason := event.Name(n), event.Reason(n); name != "?" || reason != "?" {
			t.Errorf("of %d: %q, %q", n, name, reason)
		}
	}
	for kind := 8; kind < 300; kind++ {
		if name := event.Name(kind); name != "?" {
			t.Errorf("Name(%d): %q", kind, name)
		}
	}
}
