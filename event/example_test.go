package event_test

import (
	"fmt"

	"engross/api"
	"engross/event"
)

// The example of README.md.
func Example() {
	s := event.Put(api.Event{Kind: api.Account, Acc: 1, Qty: 100})
	e, f := event.Get(s)
	fmt.Println([]byte(s), event.Name(e.Kind), e.Acc, e.Qty, f)
	_, f = event.Get(s + s)
	fmt.Println(f == api.ErrForm)
	p := api.Pair{Event: e, Verdict: api.Verdict{Code: api.DupAccount}}
	fmt.Println(event.PutPair(p) == s+event.PutVerdict(p.Verdict), event.Reason(p.Verdict.Code))
	// Output:
	// [2 2 0 0 0 200 1 0] account 1 100 0
	// true
	// true account there
}
