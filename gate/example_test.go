package gate_test

import (
	"fmt"

	"engross/api"
	"engross/gate"
)

// The example of README.md.
func Example() {
	b, v, l, f := gate.Step(api.Book{}, api.Event{Kind: api.Account, Acc: 1, Qty: 10}, 50)
	fmt.Println(v, l[2], f)
	b, v, l, f = gate.Step(b, api.Event{Kind: api.Quote, Sym: 3, Price: 5}, 50)
	fmt.Println(v, len(l), f)
	e := api.Event{Kind: api.Order, Acc: 1, Ord: 7, Sym: 3, Qty: 3, Price: 5}
	c, v, l, f := gate.Step(b, e, 50)
	fmt.Println(v, l[12], f)
	_, v, _, f = gate.Step(c, e, 50)
	fmt.Println(v, f)
	fmt.Println(c.Opens, c.Count)
	s, f := gate.Explain(c, api.Event{Kind: api.Fill, Ord: 7, Qty: 4, Price: 5}, 50)
	fmt.Print(s)
	_, _, _, f = gate.Step(c, e, 1001)
	fmt.Println(f)
	// Output:
	// {0 0} {7 10 0 false} 0
	// {0 0} 4 0
	// {0 8} {20 8 10 false} 0
	// {5 0} 0
	// [{7 1 3 0 3 5}] 3
	// fill
	//   kind at least 5 >= 1
	//   kind at most 5 <= 7
	//   order known 1 = 1
	//   quantity 4 >= 1
	//   price 5 >= 1
	//   filled 4 <= 3
	// value
	// 1
}
