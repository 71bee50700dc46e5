package gate_test

import (
	"strings"
	"testing"

	"engross/api"
	"engross/gate"
)

// P17.2: texts written out; each line ends by the byte 10.
func TestExplain(t *testing.T) {
	for _, x := range []struct {
		e     api.Event
		lines string
	}{
		{api.Event{}, "?;  kind at least 0 >= 1;kind;"},
		{api.Event{Kind: -3}, "?;  kind at least -3 >= 1;kind;"},
		{api.Event{Kind: 8}, "?;  kind at least 8 >= 1;  kind at most 8 <= 7;kind;"},
		{api.Event{Kind: api.Account, Acc: 1}, "account;  kind at least 1 >= 1;  kind at most 1 <= 7;  cash 0 >= 0;  account new 1 = 0;account there;"},
		{api.Event{Kind: api.Account, Acc: 3, Qty: 8}, "account;  kind at least 1 >= 1;  kind at most 1 <= 7;  cash 8 >= 0;  account new 0 = 0;  room of accounts 2 <= 31;accept;"},
		{api.Event{Kind: api.Limit, Acc: 2, Qty: 4, Price: 5}, "limit;  kind at least 2 >= 1;  kind at most 2 <= 7;  account known 1 = 1;  limit of position 4 >= 0;  limit of order 5 >= 0;accept;"},
		{api.Event{Kind: api.Limit, Acc: 2, Qty: -4, Price: 5}, "limit;  kind at least 2 >= 1;  kind at most 2 <= 7;  account known 1 = 1;  limit of position -4 >= 0;value;"},
		{api.Event{Kind: api.Quote, Sym: 9, Price: 5}, "quote;  kind at least 3 >= 1;  kind at most 3 <= 7;  price 5 >= 1;  room of prices 2 <= 31;accept;"},
		{api.Event{Kind: api.Order, Acc: 2, Ord: 9, Sym: 4, Side: 1, Qty: 5, Price: 3}, "order;  kind at least 4 >= 1;  kind at most 4 <= 7;  side at least 1 >= 0;  side at most 1 <= 1;  quantity 5 >= 1;  price 3 >= 1;  account known 1 = 1;  order new 0 = 0;  symbol priced 1 = 1;  room of orders 2 <= 63;" +
			"  worth 15 <= 9223372036854775807;  reach 5 <= 9223372036854775807;  margin 8 <= 9;accept 8;"},
		{api.Event{Kind: api.Order, Acc: 2, Ord: 9, Sym: 4, Side: 1, Qty: 7, Price: 3}, "order;  kind at least 4 >= 1;  kind at most 4 <= 7;  side at least 1 >= 0;  side at most 1 <= 1;  quantity 7 >= 1;  price 3 >= 1;  account known 1 = 1;  order new 0 = 0;  symbol priced 1 = 1;  room of orders 2 <= 63;" +
			"  worth 21 <= 9223372036854775807;  reach 7 <= 9223372036854775807;  margin 11 <= 9;margin;"},
		{api.Event{Kind: api.Order, Acc: 2, Ord: 9, Sym: 4, Qty: most, Price: 3}, "order;  kind at least 4 >= 1;  kind at most 4 <= 7;  side at least 0 >= 0;  side at most 0 <= 1;  quantity 9223372036854775807 >= 1;  price 3 >= 1;  account known 1 = 1;  order new 0 = 0;  symbol priced 1 = 1;  room of orders 2 <= 63;" +
			"  worth over;overflow;"},
		{api.Event{Kind: api.Fill, Ord: 8, Qty: 1, Price: 9}, "fill;  kind at least 5 >= 1;  kind at most 5 <= 7;  order known 1 = 1;  quantity 1 >= 1;  price 9 >= 1;  filled 1 <= 3;  cash behind 109 = 109;  position behind 1 = 1;accept;"},
		{api.Event{Kind: api.Fill, Ord: 7, Qty: 3, Price: most}, "fill;  kind at least 5 >= 1;  kind at most 5 <= 7;  order known 1 = 1;  quantity 3 >= 1;  price 9223372036854775807 >= 1;  filled 3 <= 4;  cash behind over;overflow;"},
		{api.Event{Kind: api.Cancel, Ord: 5}, "cancel;  kind at least 6 >= 1;  kind at most 6 <= 7;  order known 0 = 1;no order;"},
		{api.Event{Kind: api.Snap}, "snap;  kind at least 7 >= 1;  kind at most 7 <= 7;accept;"},
	} {
		want := strings.ReplaceAll(x.lines, ";", "\n")
		if text, fault := gate.Explain(sample(), x.e, 50); text != want || fault != api.OK {
			t.Errorf("Explain of %v: %q %d, not %q", x.e, text, fault, want)
		}
	}
}

// P17.2: a Need of 0 isn't told.
func TestExplainWithoutNeed(t *testing.T) {
	e := api.Event{Kind: api.Order, Acc: 2, Ord: 9, Sym: 4, Side: 1, Qty: 5, Price: 3}
	text, fault := gate.Explain(sample(), e, 0)
	if !strings.HasSuffix(text, "\n  margin 0 <= 9\naccept\n") || fault != api.OK {
		t.Errorf("%q %d", text, fault)
	}
	text, fault = gate.Explain(sample(), e, 1)
	if !strings.HasSuffix(text, "\n  margin 1 <= 9\naccept 1\n") || fault != api.OK {
		t.Errorf("%q %d", text, fault)
	}
}
