package money

import "engross/api"

// whole is how many hundredths a whole has.
const whole = 100

// Sum is a number to which others are added, exactly; a zero one is 0.
type Sum struct {
	// As many products as may be added, and the greatest share of them, don't leave its bits.
	total number
}

// Add adds a.
func (s *Sum) Add(a int64) { s.AddMul(a, 1) }

// AddMul adds a times b.
func (s *Sum) AddMul(a, b int64) {
	if s != nil {
		s.total.add(product(a, b))
	}
}

// Total gives the sum, and whether it fits.
func (s *Sum) Total() (int64, bool) {
	if s == nil {
		return 0, false
	}
	return s.total.short()
}

// Share gives as many hundredths of the sum as rate says, rounded up, and whether they may be asked for and fit.
func (s *Sum) Share(rate int) (int64, bool) {
	if s == nil || s.total.below() || rate < 0 || rate > api.MaxRate {
		return 0, false
	}
	share := s.total
	share.multiply(uint64(rate))
	share.add(whole-1, 0)
	share.divide(whole)
	return share.short()
}
