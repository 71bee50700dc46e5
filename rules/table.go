package rules

import "engross/api"

// unknown is the name, and the sign, of whatever has none.
const unknown = "?"

// The rules' numbers.
const (
	noRule = iota
	kindAtLeast
	kindAtMost
	sideAtLeast
	sideAtMost
	quantity
	price
	cash
	limitOfPosition
	limitOfOrder
	accountKnown
	accountNew
	orderNew
	orderKnown
	symbolPriced
	roomOfAccounts
	roomOfOrders
	roomOfPrices
	worth
	reach
	margin
	filled
	cashBehind
	positionBehind
)

// The relations' numbers.
const (
	noRelation = iota
	atMost
	atLeast
	like
)

// entry has what the table says of a rule.
type entry struct {
	name           string
	relation, code int
}

// table has the rules by their numbers, and ahead of them what is said of all other numbers.
var table = [...]entry{
	noRule:          {unknown, noRelation, 0},
	kindAtLeast:     {"kind at least", atLeast, api.BadKind},
	kindAtMost:      {"kind at most", atMost, api.BadKind},
	sideAtLeast:     {"side at least", atLeast, api.BadValue},
	sideAtMost:      {"side at most", atMost, api.BadValue},
	quantity:        {"quantity", atLeast, api.BadValue},
	price:           {"price", atLeast, api.BadValue},
	cash:            {"cash", atLeast, api.BadValue},
	limitOfPosition: {"limit of position", atLeast, api.BadValue},
	limitOfOrder:    {"limit of order", atLeast, api.BadValue},
	accountKnown:    {"account known", like, api.NoAccount},
	accountNew:      {"account new", like, api.DupAccount},
	orderNew:        {"order new", like, api.DupOrder},
	orderKnown:      {"order known", like, api.NoOrder},
	symbolPriced:    {"symbol priced", like, api.NoPrice},
	roomOfAccounts:  {"room of accounts", atMost, api.Full},
	roomOfOrders:    {"room of orders", atMost, api.Full},
	roomOfPrices:    {"room of prices", atMost, api.Full},
	worth:           {"worth", atMost, api.OverOrder},
	reach:           {"reach", atMost, api.OverPosition},
	margin:          {"margin", atMost, api.NoMargin},
	filled:          {"filled", atMost, api.BadValue},
	cashBehind:      {"cash behind", like, api.Overflow},
	positionBehind:  {"position behind", like, api.Overflow},
}

// known tells whether there is a rule of that number.
func known(rule int) bool { return rule > noRule && rule < len(table) }

// found gives what the table says of the rule of that number.
func found(rule int) entry {
	if !known(rule) {
		return table[noRule]
	}
	return table[rule]
}

// relation has what is asked of two sides, and the sign that stands between them.
type relation struct {
	sign  string
	holds func(left, right int64) bool
}

// relations gives the relations by their numbers, and ahead of them one that never holds.
func relations() [like + 1]relation {
	return [...]relation{
		noRelation: {unknown, func(_, _ int64) bool { return false }},
		atMost:     {"<=", func(left, right int64) bool { return left <= right }},
		atLeast:    {">=", func(left, right int64) bool { return left >= right }},
		like:       {"=", func(left, right int64) bool { return left == right }},
	}
}

// related gives the relation of the rule of that number.
func related(rule int) relation { return relations()[found(rule).relation] }
