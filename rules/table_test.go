package rules_test

import (
	"testing"

	"engross/api"
	"engross/rules"
)

// P16.1: the table, line by line.
func TestTheTable(t *testing.T) {
	if len(lines) != lastRule {
		t.Fatal(lines)
	}
	for rule := 1; rule <= lastRule; rule++ {
		want := lines[rule]
		if got := (line{rules.Name(rule), rules.Relation(rule), rules.Code(rule)}); got != want {
			t.Errorf("rule %d: %v, not %v", rule, got, want)
		}
	}
}

// P16.1: the codes are api's.
func TestTheCodesAreTheVerdicts(t *testing.T) {
	for rule, code := range map[int]int{
		2: api.BadKind, 9: api.BadValue, 10: api.NoAccount, 11: api.DupAccount, 12: api.DupOrder, 13: api.NoOrder, 14: api.NoPrice,
		17: api.Full, 18: api.OverOrder, 19: api.OverPosition, 20: api.NoMargin, 21: api.BadValue, 22: api.Overflow, 23: api.Overflow,
	} {
		if got := rules.Code(rule); got != code {
			t.Errorf("Code(%d): %d, not %d", rule, got, code)
		}
	}
}

// P16.1: of another rule 0, 0 and a ?.
func TestNoSuchRule(t *testing.T) {
	others := strange()
	for n := range 400 {
		others = append(others, -n, lastRule+1+n)
	}
	for _, rule := range others {
		if name, relation, code := rules.Name(rule), rules.Relation(rule), rules.Code(rule); name != "?" || relation != 0 || code != 0 {
			t.Errorf("rule %d: %q %d %d", rule, name, relation, code)
		}
	}
}

// P16.1, P16.2: each rule with sides at the bounds, and by each other.
func TestHoldsAndTextOfAnySides(t *testing.T) {
	for rule := -1; rule <= lastRule+1; rule++ {
		for _, left := range edges() {
			for _, right := range edges() {
				tells(t, api.Step{Rule: rule, Left: left, Right: right})
				tells(t, api.Step{Rule: rule, Left: left, Right: right, Over: true})
			}
			if left < most {
				tells(t, api.Step{Rule: rule, Left: left, Right: left + 1})
				tells(t, api.Step{Rule: rule, Left: left + 1, Right: left})
			}
		}
	}
}

// P16.1: whether steps hold, written out.
func TestHoldsWrittenOut(t *testing.T) {
	for rule, want := range map[int][3]bool{
		2: {true, true, false}, 18: {true, true, false}, // less, like, more
		1: {false, true, true}, 7: {false, true, true},
		10: {false, true, false}, 23: {false, true, false},
		0: {}, 24: {}, -1: {},
	} {
		for i, left := range []int64{4, 5, 6} {
			s := api.Step{Rule: rule, Left: left, Right: 5}
			if got := rules.Holds(s); got != want[i] {
				t.Errorf("Holds(%v): %v", s, got)
			}
			s.Over = true
			if rules.Holds(s) {
				t.Errorf("Holds(%v), which is over", s)
			}
		}
	}
}

// P16.1, P16.2: of another rule no step holds, and its text has a ? for name and relation.
func TestStepsOfNoRule(t *testing.T) {
	for _, rule := range strange() {
		for _, s := range []api.Step{{Rule: rule}, {Rule: rule, Left: -1, Right: 1}, {Rule: rule, Left: most, Right: least}} {
			tells(t, s)
			if rules.Holds(s) {
				t.Errorf("Holds(%v)", s)
			}
			s.Over = true
			if got := rules.Text(s); rules.Holds(s) || got != "? over" {
				t.Errorf("Text(%v): %q", s, got)
			}
		}
	}
}

// P16.2: texts written out.
func TestTextWrittenOut(t *testing.T) {
	for want, s := range map[string]api.Step{
		"worth 5 <= 4":             {Rule: 18, Left: 5, Right: 4},
		"worth over":               {Rule: 18, Over: true},
		"position behind over":     {Rule: 23, Left: 1, Right: 2, Over: true},
		"kind at least 6 >= 1":     {Rule: 1, Left: 6, Right: 1},
		"kind at most -6 <= 7":     {Rule: 2, Left: -6, Right: 7},
		"order known 0 = 1":        {Rule: 13, Right: 1},
		"room of prices 32 <= 31":  {Rule: 17, Left: 32, Right: 31},
		"limit of position 0 >= 0": {Rule: 8},
		"? 7 ? -8":                 {Rule: 24, Left: 7, Right: -8},
		"? 0 ? 0":                  {},
		"? over":                   {Over: true},
		"cash behind -9223372036854775808 = 9223372036854775807": {Rule: 22, Left: least, Right: most},
	} {
		if got := rules.Text(s); got != want {
			t.Errorf("Text(%v): %q, not %q", s, got, want)
		}
	}
}
