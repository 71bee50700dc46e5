package money

import "math/bits"

// number is a number of 192 bits with a sign, the lowest word first; one below 0 is less by 2^192 than what its words say without a sign.
type number [3]uint64

// sign gives all words above a number's highest one: ones alone below 0, else noughts.
func sign(word uint64) uint64 { return uint64(int64(word) >> 63) }

// product gives the two words of a times b, the lower one first.
func product(a, b int64) (uint64, uint64) {
	high, low := bits.Mul64(uint64(a), uint64(b))
	// Without its sign, what is below 0 counts for 2^64 too much, so 2^64 times the other is too much in the product.
	return low, high - sign(uint64(a))&uint64(b) - sign(uint64(b))&uint64(a)
}

// add adds a number of two words.
func (n *number) add(low, high uint64) {
	// Word by word, as a loop takes twice the time, and everything that is added comes by here.
	var carry uint64
	n[0], carry = bits.Add64(n[0], low, 0)
	n[1], carry = bits.Add64(n[1], high, carry)
	n[2] += sign(high) + carry
}

// below tells whether n is below 0.
func (n *number) below() bool { return sign(n[2]) != 0 }

// multiply makes n, which isn't below 0, as many times as great.
func (n *number) multiply(times uint64) {
	var carry uint64
	for i := range n {
		high, low := bits.Mul64(n[i], times)
		n[i], low = bits.Add64(low, carry, 0)
		carry = high + low
	}
}

// divide parts n, which isn't below 0, by a number that isn't 0, and leaves the rest.
func (n *number) divide(by uint64) {
	var rest uint64
	for i := len(n) - 1; i >= 0; i-- {
		n[i], rest = bits.Div64(rest, n[i], by)
	}
}

// short gives n in 64 bits, and whether it fits.
func (n *number) short() (int64, bool) {
	if above := sign(n[0]); n[1] != above || n[2] != above {
		return 0, false
	}
	return int64(n[0]), true
}
