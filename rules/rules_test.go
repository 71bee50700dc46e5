package rules_test

import (
	"slices"
	"testing"

	"engross/api"
	"engross/rules"
)

// P16.2: no step, and one, of each rule.
func TestWeighOfOneStep(t *testing.T) {
	for _, l := range [][]api.Step{nil, {}} {
		if v, e := rules.Weigh(l); v != (api.Verdict{}) || e != api.OK || !rules.May(l) {
			t.Errorf("of no step: %v %d", v, e)
		}
	}
	for rule := 1; rule <= lastRule; rule++ {
		weighs(t, []api.Step{good(rule)})
		weighs(t, []api.Step{bad(rule)})
		weighs(t, []api.Step{over(rule)})
		if v, _ := rules.Weigh([]api.Step{bad(rule)}); v != (api.Verdict{Code: lines[rule].code}) {
			t.Errorf("rule %d, which doesn't hold: %v", rule, v)
		}
		if v, _ := rules.Weigh([]api.Step{over(rule)}); v != (api.Verdict{Code: 12}) {
			t.Errorf("rule %d, which is over: %v", rule, v)
		}
	}
}

// P16.2: the Need is the Left of the rule 20, wherever it stands, whatever it is, if all hold.
func TestTheNeed(t *testing.T) {
	for _, need := range edges() {
		margin := api.Step{Rule: 20, Left: need, Right: most}
		for place := range lastRule {
			others := slices.DeleteFunc(all(), func(s api.Step) bool { return s.Rule == 20 })
			l := slices.Insert(others[:place:place], place, margin)
			if v, e := rules.Weigh(l); v != (api.Verdict{Code: api.Accept, Need: need}) || e != api.OK {
				t.Fatalf("Weigh(%v): %v %d", l, v, e)
			}
			l = append(l, others[place:]...)
			if v, e := rules.Weigh(l); v != (api.Verdict{Code: api.Accept, Need: need}) || e != api.OK {
				t.Fatalf("Weigh(%v): %v %d", l, v, e)
			}
			if place < lastRule-1 {
				// What is needed isn't told beside another code.
				l[lastRule-1] = bad(l[lastRule-1].Rule)
				weighs(t, l)
				l[lastRule-1] = over(l[lastRule-1].Rule)
				weighs(t, l)
			}
		}
	}
	if v, e := rules.Weigh([]api.Step{{Rule: 20, Left: 3, Right: 9}}); v != (api.Verdict{Need: 3}) || e != api.OK {
		t.Error(v, e)
	}
	if v, e := rules.Weigh([]api.Step{{Rule: 20, Left: 9, Right: 3}}); v != (api.Verdict{Code: api.NoMargin}) || e != api.OK {
		t.Error(v, e)
	}
}

// P16.1, P16.2: each rule twice, at each two places.
func TestNoRuleTwice(t *testing.T) {
	for rule := 1; rule <= lastRule; rule++ {
		for _, second := range []api.Step{good(rule), bad(rule), over(rule), {Rule: rule, Left: 9, Right: 9}} {
			for place := range lastRule + 1 {
				refuses(t, slices.Insert(all(), place, second))
			}
			refuses(t, []api.Step{good(rule), second})
		}
	}
}

// refuses fails where steps aren't refused.
func refuses(t *testing.T, l []api.Step) {
	t.Helper()
	if rules.May(l) {
		t.Fatalf("May(%v)", l)
	}
	if v, e := rules.Weigh(l); v != (api.Verdict{}) || e != api.ErrForm {
		t.Fatalf("Weigh(%v): %v %d", l, v, e)
	}
}

// P16.1, P16.2: a step that doesn't hold, or is over, at each place: only the last one may.
func TestOnlyTheLastOneMayNotHold(t *testing.T) {
	for place := range lastRule {
		for _, step := range []api.Step{bad(place + 1), over(place + 1)} {
			l := all()
			l[place] = step
			weighs(t, l)
			weighs(t, l[:place+1])
			if rules.May(l) != (place == lastRule-1) || !rules.May(l[:place+1]) {
				t.Errorf("%v at %d", step, place)
			}
			if place+1 < lastRule {
				refuses(t, l[:place+2])
				l[place+1] = bad(place + 2)
				refuses(t, l[:place+2])
			}
		}
	}
}

// P16.1, P16.2: an over step with a side other than 0, and another rule, at each place.
func TestStepsThatAreNone(t *testing.T) {
	var wrong []api.Step
	for _, side := range edges() {
		if side != 0 {
			wrong = append(wrong, api.Step{Rule: 18, Left: side, Over: true}, api.Step{Rule: 18, Right: side, Over: true}, api.Step{Rule: 18, Left: side, Right: side, Over: true}, api.Step{Rule: 18, Left: side, Right: -side, Over: true})
		}
	}
	for _, rule := range strange() {
		wrong = append(wrong, api.Step{Rule: rule}, api.Step{Rule: rule, Over: true}, api.Step{Rule: rule, Left: 1, Right: 1}, api.Step{Rule: rule, Left: 1, Right: 2}, api.Step{Rule: rule, Left: 2, Right: 1})
	}
	others := slices.DeleteFunc(all(), func(s api.Step) bool { return s.Rule == 18 })
	for _, s := range wrong {
		refuses(t, []api.Step{s})
		for place := range others {
			refuses(t, slices.Insert(slices.Clone(others), place, s))
		}
		refuses(t, slices.Concat(others, []api.Step{s}))
	}
}

// P16.1, P16.2, P16.3: all lists of up to three steps of a few.
func TestShortLists(t *testing.T) {
	var few []api.Step
	for _, rule := range []int{1, 13, 18, 20} {
		few = append(few, good(rule), bad(rule), over(rule))
	}
	few = append(few, api.Step{Rule: 20, Left: -8, Right: 8}, api.Step{Rule: 18, Right: 1, Over: true}, api.Step{}, api.Step{Rule: 24, Over: true})
	for _, a := range few {
		weighs(t, []api.Step{a})
		for _, b := range few {
			weighs(t, []api.Step{a, b})
			for _, c := range few {
				weighs(t, []api.Step{a, b, c})
				accepts(t, []api.Step{a, b, c})
			}
		}
	}
}

// accepts fails where steps that may be have the code Accept and don't all hold, or have another one and do.
func accepts(t *testing.T, l []api.Step) {
	t.Helper()
	v, e := rules.Weigh(l)
	if e != api.OK {
		return
	}
	hold := !slices.ContainsFunc(l, func(s api.Step) bool { return !rules.Holds(s) })
	if hold != (v.Code == api.Accept) {
		t.Fatalf("Weigh(%v): %v", l, v)
	}
}

// P16.1, P16.2, P16.3: rules in any order, with any sides.
func TestAnySteps(t *testing.T) {
	next := chance(16)
	sides := edges()
	met := map[api.Errno]int{}
	for range 60000 {
		l := all()
		for i := range l {
			j := i + next(len(l)-i)
			l[i], l[j] = l[j], l[i]
			if lines[l[i].Rule].relation == 1 {
				l[i].Left = -int64(next(5))
			}
		}
		l = l[:next(lastRule+1)]
		if len(l) > 0 && next(3) > 0 {
			l[len(l)-1] = api.Step{Rule: l[len(l)-1].Rule, Left: sides[next(len(sides))], Right: sides[next(len(sides))]}
		}
		if len(l) > 0 && next(4) == 0 {
			i := next(len(l))
			l[i] = []api.Step{over(l[i].Rule), bad(l[i].Rule), good(1 + next(lastRule)), {Rule: strange()[next(len(strange()))], Left: 1, Right: 1}}[next(4)]
		}
		weighs(t, l)
		accepts(t, l)
		_, e := rules.Weigh(l)
		met[e]++
	}
	if met[api.OK] < 10000 || met[api.ErrForm] < 1000 {
		t.Error("the lists are too much alike:", met)
	}
}

// P16.1: no code of the table is Accept (so P16.3 holds).
func TestNoRuleAcceptsWhereItDoesNotHold(t *testing.T) {
	for rule := 1; rule <= lastRule; rule++ {
		if rules.Code(rule) == api.Accept {
			t.Errorf("rule %d", rule)
		}
	}
}

// P16.2: more steps than there are rules.
func TestManySteps(t *testing.T) {
	for _, l := range [][]api.Step{slices.Repeat([]api.Step{good(1)}, 1<<20), slices.Repeat(all(), 1000), slices.Repeat([]api.Step{{}}, 1<<20)} {
		refuses(t, l)
	}
}

// Rules 5 and 6 of the document: the steps and their spare room stay as they are, and the answer is the same each time.
func TestStepsStayAsTheyAre(t *testing.T) {
	l := append(all(), over(0), bad(3), api.Step{Rule: -1, Left: 5})
	kept := slices.Clone(l)
	for n := range len(l) + 1 {
		v, e := rules.Weigh(l[:n])
		again, f := rules.Weigh(slices.Clip(slices.Clone(l[:n])))
		if v != again || e != f || rules.May(l[:n]) != rules.May(kept[:n]) {
			t.Errorf("%d steps: %v %d, %v %d", n, v, e, again, f)
		}
		if !slices.Equal(l, kept) {
			t.Fatalf("%d steps: they are changed", n)
		}
	}
}
