package gate_test

import (
	"cmp"
	"fmt"
	"math"
	"math/big"
	"slices"
	"strconv"
	"strings"
	"testing"

	"engross/api"
	"engross/book"
	"engross/gate"
	"engross/rules"
)

// What the package is held against: the chapter's words, over the library's numbers without bounds. Whether a book may be is layer 12's word, how a step reads layer 16's.

const (
	least = math.MinInt64
	most  = math.MaxInt64
)

// relations and codes are those of the rules, by their numbers.
var (
	relations = [...]int{0, 2, 1, 2, 1, 2, 2, 2, 2, 2, 3, 3, 3, 3, 3, 1, 1, 1, 1, 1, 1, 1, 3, 3}
	codes     = [...]int{0, 1, 1, 2, 2, 2, 2, 2, 2, 2, 3, 4, 5, 6, 7, 8, 8, 8, 9, 10, 11, 2, 12, 12}
	names     = []string{"account", "limit", "quote", "order", "fill", "cancel", "snap"}
	reasons   = []string{"accept", "kind", "value", "no account", "account there", "order there", "no order", "no price", "full", "order too great", "position too great", "margin", "overflow"}
)

// look is a rule with both its sides, without bounds.
type look struct {
	rule        int
	left, right *big.Int
}

// number gives n without bounds.
func number(n int64) *big.Int { return big.NewInt(n) }

// times gives a times b, without bounds.
func times(a, b int64) *big.Int { return new(big.Int).Mul(number(a), number(b)) }

// plus gives a and b together, without bounds.
func plus(a, b *big.Int) *big.Int { return new(big.Int).Add(a, b) }

// looks are all that is looked at of an event, in order.
type looks struct {
	list []look
}

// at has one more rule with its sides looked at.
func (l *looks) at(rule int, left, right *big.Int) { l.list = append(l.list, look{rule, left, right}) }

// is has one more rule looked at, by which something is there, or isn't.
func (l *looks) is(rule int, there bool, right int64) {
	if there {
		l.at(rule, number(1), number(right))
	} else {
		l.at(rule, number(0), number(right))
	}
}

// plain has one more rule looked at, with these sides.
func (l *looks) plain(rule int, left, right int64) { l.at(rule, number(left), number(right)) }

// holderOf gives an account, and whether it is there.
func holderOf(b api.Book, acc int64) (api.Holder, bool) {
	for _, h := range b.Holders {
		if h.Id == acc {
			return h, true
		}
	}
	return api.Holder{}, false
}

// openOf gives an open order, and whether it is there.
func openOf(b api.Book, id int64) (api.Open, bool) {
	for _, o := range b.Opens {
		if o.Id == id {
			return o, true
		}
	}
	return api.Open{}, false
}

// rateOf gives a symbol's price; 0, if it has none.
func rateOf(b api.Book, sym int64) int64 {
	for _, r := range b.Rates {
		if r.Sym == sym {
			return r.Price
		}
	}
	return 0
}

// stakeOf gives an account's stake in a symbol.
func stakeOf(b api.Book, acc, sym int64) int64 {
	for _, s := range b.Stakes {
		if s.Acc == acc && s.Sym == sym {
			return s.Qty
		}
	}
	return 0
}

// equityOf gives what an account is worth.
func equityOf(b api.Book, acc int64) *big.Int {
	h, _ := holderOf(b, acc)
	sum := number(h.Cash)
	for _, s := range b.Stakes {
		if s.Acc == acc {
			sum = plus(sum, times(s.Qty, rateOf(b, s.Sym)))
		}
	}
	return sum
}

// needOf gives what an account needs with one more order.
func needOf(b api.Book, acc, qty, price int64, rate int) *big.Int {
	sum := times(qty, price)
	for _, s := range b.Stakes {
		if s.Acc == acc {
			sum = plus(sum, new(big.Int).Abs(times(s.Qty, rateOf(b, s.Sym))))
		}
	}
	for _, o := range b.Opens {
		if o.Acc == acc {
			sum = plus(sum, times(o.Left, o.Price))
		}
	}
	up := plus(new(big.Int).Mul(sum, number(int64(rate))), number(99))
	return up.Div(up, number(100))
}

// reachOf gives how far an account may reach in a symbol with one more order.
func reachOf(b api.Book, acc, sym int64, side int, qty int64) *big.Int {
	far := number(stakeOf(b, acc, sym))
	if side == 1 {
		far.Neg(far)
	}
	for _, o := range b.Opens {
		if o.Acc == acc && o.Sym == sym && o.Side == side {
			far = plus(far, number(o.Left))
		}
	}
	return plus(far, number(qty))
}

// behindFill gives cash and stake behind a fill of an open order.
func behindFill(b api.Book, o api.Open, qty, price int64) (cash, stake *big.Int) {
	worth, much := times(qty, price), number(qty)
	if o.Side == 0 {
		worth.Neg(worth)
	} else {
		much.Neg(much)
	}
	h, _ := holderOf(b, o.Acc)
	return plus(number(h.Cash), worth), plus(number(stakeOf(b, o.Acc, o.Sym)), much)
}

// allLooks gives all that is looked at of an event, in order.
func allLooks(b api.Book, e api.Event, rate int) []look {
	var l looks
	h, account := holderOf(b, e.Acc)
	o, order := openOf(b, e.Ord)
	priced := rateOf(b, e.Sym) > 0
	l.plain(1, int64(e.Kind), 1)
	l.plain(2, int64(e.Kind), 7)
	switch e.Kind {
	case 1:
		l.plain(7, e.Qty, 0)
		l.is(11, account, 0)
		l.plain(15, int64(len(b.Holders)), 31)
	case 2:
		l.is(10, account, 1)
		l.plain(8, e.Qty, 0)
		l.plain(9, e.Price, 0)
	case 3:
		l.plain(6, e.Price, 1)
		if !priced {
			l.plain(17, int64(len(b.Rates)), 31)
		}
	case 4:
		l.plain(3, int64(e.Side), 0)
		l.plain(4, int64(e.Side), 1)
		l.plain(5, e.Qty, 1)
		l.plain(6, e.Price, 1)
		l.is(10, account, 1)
		l.is(12, order, 0)
		l.is(14, priced, 1)
		l.plain(16, int64(len(b.Opens)), 63)
		l.at(18, times(e.Qty, e.Price), number(h.MaxOrder))
		l.at(19, reachOf(b, e.Acc, e.Sym, e.Side, e.Qty), number(h.MaxPos))
		l.at(20, needOf(b, e.Acc, e.Qty, e.Price, rate), equityOf(b, e.Acc))
	case 5:
		l.is(13, order, 1)
		l.plain(5, e.Qty, 1)
		l.plain(6, e.Price, 1)
		l.plain(21, e.Qty, o.Left)
		cash, stake := behindFill(b, o, e.Qty, e.Price)
		l.at(22, cash, cash)
		l.at(23, stake, stake)
	case 6:
		l.is(13, order, 1)
	}
	return l.list
}

// weighed gives the steps up to the first that doesn't hold, and the verdict.
func weighed(all []look) ([]api.Step, api.Verdict) {
	var steps []api.Step
	var v api.Verdict
	for _, x := range all {
		if !x.left.IsInt64() || !x.right.IsInt64() {
			return append(steps, api.Step{Rule: x.rule, Over: true}), api.Verdict{Code: 12}
		}
		steps = append(steps, api.Step{Rule: x.rule, Left: x.left.Int64(), Right: x.right.Int64()})
		order := x.left.Cmp(x.right)
		if order > 0 && relations[x.rule] != 2 || order < 0 && relations[x.rule] != 1 {
			return steps, api.Verdict{Code: codes[x.rule]}
		}
		if x.rule == 20 {
			v.Need = x.left.Int64()
		}
	}
	return steps, v
}

// set gives a list with the thing instead of those of its key, or without them, if it isn't to stay.
func set[T any](list []T, thing T, stays bool, compare func(x, y T) int) []T {
	l := slices.DeleteFunc(slices.Clone(list), func(x T) bool { return compare(x, thing) == 0 })
	if stays {
		l = append(l, thing)
	}
	slices.SortFunc(l, compare)
	return l
}

// changed gives the book in which what the event says is done.
func changed(b api.Book, e api.Event) api.Book {
	holder := func(h api.Holder) {
		b.Holders = set(b.Holders, h, true, func(x, y api.Holder) int { return cmp.Compare(x.Id, y.Id) })
	}
	open := func(o api.Open, stays bool) {
		b.Opens = set(b.Opens, o, stays, func(x, y api.Open) int { return cmp.Compare(x.Id, y.Id) })
	}
	switch e.Kind {
	case 1:
		holder(api.Holder{Id: e.Acc, Cash: e.Qty, MaxPos: most, MaxOrder: most})
	case 2:
		h, _ := holderOf(b, e.Acc)
		holder(api.Holder{Id: e.Acc, Cash: h.Cash, MaxPos: e.Qty, MaxOrder: e.Price})
	case 3:
		b.Rates = set(b.Rates, api.Rate{Sym: e.Sym, Price: e.Price}, true, func(x, y api.Rate) int { return cmp.Compare(x.Sym, y.Sym) })
	case 4:
		open(api.Open{Id: e.Ord, Acc: e.Acc, Sym: e.Sym, Side: e.Side, Left: e.Qty, Price: e.Price}, true)
	case 5:
		o, _ := openOf(b, e.Ord)
		h, _ := holderOf(b, o.Acc)
		cash, stake := behindFill(b, o, e.Qty, e.Price)
		holder(api.Holder{Id: h.Id, Cash: cash.Int64(), MaxPos: h.MaxPos, MaxOrder: h.MaxOrder})
		s := api.Stake{Acc: o.Acc, Sym: o.Sym, Qty: stake.Int64()}
		b.Stakes = set(b.Stakes, s, s.Qty != 0, func(x, y api.Stake) int {
			return cmp.Or(cmp.Compare(x.Acc, y.Acc), cmp.Compare(x.Sym, y.Sym))
		})
		o.Left -= e.Qty
		open(o, o.Left != 0)
	case 6:
		open(api.Open{Id: e.Ord}, false)
	}
	return b
}

// wanted gives what Step answers.
func wanted(b api.Book, e api.Event, rate int) (api.Book, api.Verdict, []api.Step, api.Errno) {
	if !book.May(b) || rate < 0 || rate > 1000 {
		return api.Book{}, api.Verdict{}, nil, api.ErrArg
	}
	if b.Count == 1<<40 {
		return api.Book{}, api.Verdict{}, nil, api.ErrRange
	}
	steps, v := weighed(allLooks(b, e, rate))
	if v.Code == 0 {
		b = changed(b, e)
	}
	b.Count++
	return b, v, steps, api.OK
}

// wantedText gives what Explain answers.
func wantedText(b api.Book, e api.Event, rate int) (string, api.Errno) {
	_, v, steps, fault := wanted(b, e, rate)
	if fault != api.OK {
		return "", fault
	}
	text := "?\n"
	if e.Kind >= 1 && e.Kind <= 7 {
		text = names[e.Kind-1] + "\n"
	}
	for _, s := range steps {
		text += "  " + rules.Text(s) + "\n"
	}
	text += reasons[v.Code]
	if v.Need != 0 {
		text += " " + strconv.FormatInt(v.Need, 10)
	}
	return text + "\n", api.OK
}

// brief tells of a thing in few words.
func brief(thing any) string {
	s := fmt.Sprintf("%v", thing)
	return s[:min(len(s), 300)]
}

// stepped fails where Step, or Explain, doesn't answer what the chapter's words tell; it gives what Step answers.
func stepped(t *testing.T, b api.Book, e api.Event, rate int) (api.Book, api.Verdict, []api.Step, api.Errno) {
	t.Helper()
	wb, wv, ws, we := wanted(b, e, rate)
	gb, gv, gs, ge := gate.Step(b, e, rate)
	if !book.Same(gb, wb) || gv != wv || !slices.Equal(gs, ws) || ge != we {
		t.Fatalf("Step of %v at %d in %s:\n%s %v %v %d, not\n%s %v %v %d", e, rate, brief(b), brief(gb), gv, gs, ge, brief(wb), wv, ws, we)
	}
	wt, we := wantedText(b, e, rate)
	if gt, ge := gate.Explain(b, e, rate); gt != wt || ge != we {
		t.Fatalf("Explain of %v at %d in %s: %q %d, not %q %d", e, rate, brief(b), gt, ge, wt, we)
	}
	follows(t, b, gb, gv, gs, ge)
	return gb, gv, gs, ge
}

// follows fails where what P17.3 says of an answer isn't so.
func follows(t *testing.T, b, behind api.Book, v api.Verdict, steps []api.Step, fault api.Errno) {
	t.Helper()
	if fault != api.OK {
		return
	}
	if !book.May(behind) {
		t.Fatalf("a book that may not be is behind %s: %s", brief(b), brief(behind))
	}
	if behind.Count != b.Count+1 {
		t.Fatalf("Count %d is behind %d", behind.Count, b.Count)
	}
	if w, e := rules.Weigh(steps); w != v || e != api.OK {
		t.Fatalf("%v weighs %v %d, not %v", steps, w, e, v)
	}
	if behind.Count = b.Count; v.Code != api.Accept && !book.Same(behind, b) {
		t.Fatalf("%v changed %s to %s", v, brief(b), brief(behind))
	}
}

// chance gives numbers below what it is asked for, others of each seed.
func chance(seed uint64) func(n int) int {
	return func(n int) int {
		seed = seed*6364136223846793005 + 1442695040888963407
		return int(seed >> 33 % uint64(n))
	}
}

// oneOf gives one thing of a list.
func oneOf[T any](list []T, below func(int) int) T { return list[below(len(list))] }

// edges are numbers at the ends of what fits, and some between, with both signs.
func edges() []int64 {
	return []int64{least, least + 1, -1 << 62, -1 << 32, -65, -2, -1, 0, 1, 2, 3, 63, 64, 1<<31 - 1, 1 << 31, 1 << 32, 1<<32 + 1, 1 << 62, most - 1, most}
}

// small are numbers whose products stay far from the ends.
func small() []int64 { return []int64{-3, -1, 0, 1, 2, 3, 5, 7, 40, 99, 100, 101} }

// seen counts how often a rule was the last that was looked at, and didn't hold, and how often it was over.
type seen struct {
	last, over [len(codes)]int
	accepted   [8]int
}

// note notes an answer.
func (s *seen) note(kind int, v api.Verdict, steps []api.Step) {
	if v.Code == api.Accept {
		s.accepted[kind]++
		return
	}
	x := steps[len(steps)-1]
	if x.Over {
		s.over[x.Rule]++
	} else {
		s.last[x.Rule]++
	}
}

// String tells the counts.
func (s *seen) String() string {
	var out strings.Builder
	fmt.Fprintln(&out, "accepted by kinds", s.accepted)
	fmt.Fprintln(&out, "didn't hold by rules", s.last)
	fmt.Fprintln(&out, "over by rules", s.over)
	return out.String()
}

// enough fails where one of the rules that can stop an event did so, one of these was over, or a kind was accepted, less often than so many times.
func (s *seen) enough(t *testing.T, times int, overs ...int) {
	t.Helper()
	for rule := 1; rule <= 21; rule++ {
		if s.last[rule] < times {
			t.Errorf("the rule %d stopped only %d events\n%v", rule, s.last[rule], s)
		}
	}
	for _, rule := range overs {
		if s.over[rule] < times {
			t.Errorf("the rule %d was over only %d times\n%v", rule, s.over[rule], s)
		}
	}
	for kind := 1; kind <= 7; kind++ {
		if s.accepted[kind] < times {
			t.Errorf("the kind %d was accepted only %d times\n%v", kind, s.accepted[kind], s)
		}
	}
}
