package gate

import (
	"engross/api"
	"engross/rules"
)

// The rules' numbers, by their names; margin is enough here, as a package has its name.
const (
	kindAtLeast = 1 + iota
	kindAtMost
	sideAtLeast
	sideAtMost
	quantity
	price
	cash
	limitOfPosition
	limitOfOrder
	accountKnown
	accountNew
	orderNew
	orderKnown
	symbolPriced
	roomOfAccounts
	roomOfOrders
	roomOfPrices
	worth
	reach
	enough
	filled
	cashBehind
	positionBehind
)

// look looks at one rule.
type look func() api.Step

// looked goes through a row of looks up to the first whose rule doesn't hold.
func looked(row []look) []api.Step {
	var steps []api.Step
	for _, at := range row {
		s := at()
		steps = append(steps, s)
		if !rules.Holds(s) {
			break
		}
	}
	return steps
}

// plain looks at a rule whose sides always fit.
func plain(rule int, left, right int64) look {
	return func() api.Step { return api.Step{Rule: rule, Left: left, Right: right} }
}

// exact looks at a rule whose sides are reckoned, and may not fit.
func exact(rule int, sides func() (left, right int64, fit bool)) look {
	return func() api.Step {
		left, right, fit := sides()
		if !fit {
			return api.Step{Rule: rule, Over: true}
		}
		return api.Step{Rule: rule, Left: left, Right: right}
	}
}

// there looks at a rule by which something is to be there, or not to be there: the sides are 1 or 0.
func there(rule int, is, want bool) look { return plain(rule, bit(is), bit(want)) }

// room looks at a rule by which there is to be room for one thing more.
func room(rule, count, most int) look { return plain(rule, int64(count), int64(most-1)) }

// bit gives 1, if it is so, else 0.
func bit(is bool) int64 {
	if is {
		return 1
	}
	return 0
}
