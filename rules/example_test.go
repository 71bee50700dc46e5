package rules_test

import (
	"fmt"

	"engross/api"
	"engross/rules"
)

// The example of README.md.
func Example() {
	l := []api.Step{{Rule: 1, Left: 4, Right: 1}, {Rule: 20, Left: 3, Right: 9}}
	fmt.Println(rules.Weigh(l))
	s := api.Step{Rule: 18, Left: 5, Right: 4}
	fmt.Println(rules.Holds(s), rules.Text(s))
	fmt.Println(rules.Weigh(append(l, s)))
	fmt.Println(rules.Weigh(append(l, api.Step{Rule: 18, Over: true})))
	fmt.Println(rules.Text(api.Step{Rule: 18, Over: true}))
	fmt.Println(rules.Weigh(append(l, l[0])))
	fmt.Println(rules.Name(18), rules.Relation(18), rules.Code(18) == api.OverOrder)
	fmt.Println(rules.Name(24), rules.Relation(24), rules.Code(24))
	// Output:
	// {0 3} 0
	// false worth 5 <= 4
	// {9 0} 0
	// {12 0} 0
	// worth over
	// {0 0} 3
	// worth 1 true
	// ? 0 0
}
