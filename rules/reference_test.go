package rules_test

import (
	"fmt"
	"math"
	"math/big"
	"strconv"
	"strings"
	"testing"

	"engross/api"
	"engross/rules"
)

// What the package is held against: the chapter's table as it stands there, and its words.

const (
	least = math.MinInt64
	most  = math.MaxInt64
)

// chapter is the chapter's table.
const chapter = `
| 1 | kind at least | 2 | BadKind |
| 2 | kind at most | 1 | BadKind |
| 3 | side at least | 2 | BadValue |
| 4 | side at most | 1 | BadValue |
| 5 | quantity | 2 | BadValue |
| 6 | price | 2 | BadValue |
| 7 | cash | 2 | BadValue |
| 8 | limit of position | 2 | BadValue |
| 9 | limit of order | 2 | BadValue |
| 10 | account known | 3 | NoAccount |
| 11 | account new | 3 | DupAccount |
| 12 | order new | 3 | DupOrder |
| 13 | order known | 3 | NoOrder |
| 14 | symbol priced | 3 | NoPrice |
| 15 | room of accounts | 1 | Full |
| 16 | room of orders | 1 | Full |
| 17 | room of prices | 1 | Full |
| 18 | worth | 1 | OverOrder |
| 19 | reach | 1 | OverPosition |
| 20 | margin | 1 | NoMargin |
| 21 | filled | 1 | BadValue |
| 22 | cash behind | 3 | Overflow |
| 23 | position behind | 3 | Overflow |
`

// lastRule is the greatest number of a rule.
const lastRule = 23

// codes has the numbers of the codes that the chapter names.
var codes = map[string]int{
	"BadKind": 1, "BadValue": 2, "NoAccount": 3, "DupAccount": 4, "DupOrder": 5, "NoOrder": 6, "NoPrice": 7,
	"Full": 8, "OverOrder": 9, "OverPosition": 10, "NoMargin": 11, "Overflow": 12,
}

// line is one of the chapter's table.
type line struct {
	name           string
	relation, code int
}

// lines has the lines of the chapter's table by the rules' numbers.
var lines = read(chapter)

// read gives the lines of a table.
func read(table string) map[int]line {
	all := map[int]line{}
	for text := range strings.Lines(strings.TrimSpace(table)) {
		cells := strings.Split(text, "|")
		for i := range cells {
			cells[i] = strings.TrimSpace(cells[i])
		}
		number, _ := strconv.Atoi(cells[1])
		relation, _ := strconv.Atoi(cells[3])
		all[number] = line{cells[2], relation, codes[cells[4]]}
	}
	return all
}

// holds tells whether a step holds.
func holds(s api.Step) bool {
	order := big.NewInt(s.Left).Cmp(big.NewInt(s.Right))
	switch lines[s.Rule].relation {
	case 1:
		return !s.Over && order != 1
	case 2:
		return !s.Over && order != -1
	case 3:
		return !s.Over && order == 0
	}
	return false
}

// may tells whether steps may be: one of the chapter's reasons after another.
func may(l []api.Step) bool {
	often := map[int]int{}
	for _, s := range l {
		often[s.Rule]++
	}
	for _, s := range l {
		_, there := lines[s.Rule]
		if !there || often[s.Rule] > 1 || s.Over && (s.Left != 0 || s.Right != 0) {
			return false
		}
	}
	for i := 0; i+1 < len(l); i++ {
		if !holds(l[i]) {
			return false
		}
	}
	return true
}

// weigh gives the verdict of steps.
func weigh(l []api.Step) (api.Verdict, api.Errno) {
	if !may(l) {
		return api.Verdict{}, api.ErrForm
	}
	if len(l) > 0 && !holds(l[len(l)-1]) {
		last := l[len(l)-1]
		if last.Over {
			return api.Verdict{Code: api.Overflow}, api.OK
		}
		return api.Verdict{Code: lines[last.Rule].code}, api.OK
	}
	for _, s := range l {
		if s.Rule == 20 {
			return api.Verdict{Need: s.Left}, api.OK
		}
	}
	return api.Verdict{}, api.OK
}

// text gives a step as words.
func text(s api.Step) string {
	name := "?"
	if there, ok := lines[s.Rule]; ok {
		name = there.name
	}
	if s.Over {
		return name + " over"
	}
	sign := []string{"?", "<=", ">=", "="}[lines[s.Rule].relation]
	return fmt.Sprintf("%s %d %s %d", name, s.Left, sign, s.Right)
}

// weighs fails where steps aren't weighed as the chapter says.
func weighs(t *testing.T, l []api.Step) {
	t.Helper()
	want, fault := weigh(l)
	got, e := rules.Weigh(l)
	if got != want || e != fault {
		t.Fatalf("Weigh(%v): %v %d, not %v %d", l, got, e, want, fault)
	}
	if rules.May(l) != may(l) {
		t.Fatalf("May(%v): %v", l, rules.May(l))
	}
}

// tells fails where a step doesn't hold, or isn't told, as the chapter says.
func tells(t *testing.T, s api.Step) {
	t.Helper()
	if rules.Holds(s) != holds(s) {
		t.Fatalf("Holds(%v): %v", s, rules.Holds(s))
	}
	if got := rules.Text(s); got != text(s) {
		t.Fatalf("Text(%v): %q, not %q", s, got, text(s))
	}
}

// edges are numbers at the bounds, and by them.
func edges() []int64 {
	return []int64{0, 1, -1, 2, -2, 7, 31, 63, 255, 256, 1 << 31, 1<<32 - 1, 1 << 32, 1<<32 + 1, -1 << 31, -1 << 32, 1<<53 + 1, 1 << 53, most, most - 1, least, least + 1}
}

// strange are numbers that no rule has, also those that are a rule's in fewer bits.
func strange() []int {
	return []int{0, -1, -2, -20, -23, -24, 24, 25, 32, 127, 128, -128, 255, 256, 257, 256 + 20, 1 << 16, 1<<16 + 18, 1<<31 + 20, 1<<32 + 1, 1<<32 + 20, -1<<32 + 4, math.MaxInt, math.MaxInt - 1, math.MinInt, math.MinInt + 1, math.MinInt + 20}
}

// chance gives numbers from 0 to below a bound, as they come by the seed.
func chance(seed uint64) func(below int) int {
	return func(below int) int {
		seed ^= seed << 13
		seed ^= seed >> 7
		seed ^= seed << 17
		return int((seed >> 1) % uint64(below))
	}
}

// good gives a step of the rule that holds.
func good(rule int) api.Step { return api.Step{Rule: rule, Left: 3, Right: 3} }

// bad gives a step of the rule that doesn't hold.
func bad(rule int) api.Step {
	if lines[rule].relation == 1 {
		return api.Step{Rule: rule, Left: 4, Right: 3}
	}
	return api.Step{Rule: rule, Left: 3, Right: 4}
}

// over gives a step of the rule that left 64 bits.
func over(rule int) api.Step { return api.Step{Rule: rule, Over: true} }

// all gives a step of each rule that holds, in the table's order.
func all() []api.Step {
	var l []api.Step
	for rule := 1; rule <= lastRule; rule++ {
		l = append(l, good(rule))
	}
	return l
}
