package event

import "engross/api"

// unknown is the name of whatever has none.
const unknown = "?"

// kinds has the kinds' names; there is no kind 0.
var kinds = [...]string{
	api.Account: "account",
	api.Limit:   "limit",
	api.Quote:   "quote",
	api.Order:   "order",
	api.Fill:    "fill",
	api.Cancel:  "cancel",
	api.Snap:    "snap",
}

// reasons has the codes' names.
var reasons = [...]string{
	api.Accept:       "accept",
	api.BadKind:      "kind",
	api.BadValue:     "value",
	api.NoAccount:    "no account",
	api.DupAccount:   "account there",
	api.DupOrder:     "order there",
	api.NoOrder:      "no order",
	api.NoPrice:      "no price",
	api.Full:         "full",
	api.OverOrder:    "order too great",
	api.OverPosition: "position too great",
	api.NoMargin:     "margin",
	api.Overflow:     "overflow",
	api.Unavailable:  "unavailable",
}

// Name gives a kind's name.
func Name(kind int) string {
	if kind < api.Account || kind > api.Snap {
		return unknown
	}
	return kinds[kind]
}

// Reason gives a code's name.
func Reason(code int) string {
	if code < api.Accept || code > api.Unavailable {
		return unknown
	}
	return reasons[code]
}
