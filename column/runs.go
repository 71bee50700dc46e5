package column

import (
	"iter"

	"engross/api"
	"engross/nums"
)

// runs tells the runs of l's differences: each difference, and how many times it comes.
func runs(l []int64) iter.Seq2[int64, uint64] {
	return func(yield func(by int64, times uint64) bool) {
		for from := 0; from < len(l); {
			by, to := difference(l, from), from+1
			for to < len(l) && difference(l, to) == by {
				to++
			}
			if !yield(by, uint64(to-from)) {
				return
			}
			from = to
		}
	}
}

// difference gives what the number i of l is more than the one ahead.
func difference(l []int64, i int) int64 {
	if i == 0 {
		return l[0]
	}
	return l[i] - l[i-1]
}

// written tells the runs that stand next in r, as long as numbers lack and r doesn't fault.
func written(r *nums.Reader, less func(times uint64) uint64) iter.Seq2[int64, uint64] {
	return func(yield func(by int64, times uint64) bool) {
		var ahead int64
		first := true
		for lack := less(0); lack > 0; {
			by, times := r.Int(), r.Num(lack)
			// Were these let by, one column would have other bytes too. An earlier fault stays.
			if times == 0 || !first && by == ahead {
				r.Fail(api.ErrForm)
			}
			if r.Fault() != api.OK || !yield(by, times) {
				return
			}
			ahead, first, lack = by, false, less(times)
		}
	}
}

// countdown gives a closure that takes so many from what lacks, and tells what still does.
func countdown(lack uint64) func(times uint64) uint64 {
	return func(times uint64) uint64 {
		lack -= times
		return lack
	}
}
