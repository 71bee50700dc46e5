// Package nums is layer 1: numbers and rows as bytes, each in one way (see shared/doc/01-nums.md).
package nums

// longest is how many bytes a number has at most: nine digits of base 128 have 63 bits, the tenth has the last one.
const longest = 10

// Num gives a number's bytes: its digits of base 128, the lowest first.
func Num(n uint64) string {
	var digits [longest]byte
	size := 0
	for ; n >= 128; n >>= 7 {
		digits[size] = byte(n) | 128
		size++
	}
	digits[size] = byte(n)
	return string(digits[:size+1])
}

// Int gives a number with a sign's bytes.
func Int(n int64) string { return Num(Zig(n)) }

// Row gives a row's bytes: how many it has, and they.
func Row(s string) string { return Num(uint64(len(s))) + s }

// Zig turns a number with a sign in: 2 n, or -2 n - 1 below 0.
func Zig(n int64) uint64 {
	// Shifted down, the sign is all ones or all noughts; -2 n - 1 is 2 n with all its bits turned.
	return uint64(n)<<1 ^ uint64(n>>63)
}

// Zag turns a number with a sign out.
func Zag(n uint64) int64 { return int64(n>>1) ^ -int64(n&1) }
