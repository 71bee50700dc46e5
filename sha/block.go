package sha

import "math/bits"

// blockSize is how many bytes are mixed in at once.
const blockSize = 64

// constants are the first 32 bits behind the point of the cube roots of the first 64 primes, one for each round.
var constants = [64]uint32{
	0x428a2f98, 0x71374491, 0xb5c0fbcf, 0xe9b5dba5, 0x3956c25b, 0x59f111f1, 0x923f82a4, 0xab1c5ed5,
	0xd807aa98, 0x12835b01, 0x243185be, 0x550c7dc3, 0x72be5d74, 0x80deb1fe, 0x9bdc06a7, 0xc19bf174,
	0xe49b69c1, 0xefbe4786, 0x0fc19dc6, 0x240ca1cc, 0x2de92c6f, 0x4a7484aa, 0x5cb0a9dc, 0x76f988da,
	0x983e5152, 0xa831c66d, 0xb00327c8, 0xbf597fc7, 0xc6e00bf3, 0xd5a79147, 0x06ca6351, 0x14292967,
	0x27b70a85, 0x2e1b2138, 0x4d2c6dfc, 0x53380d13, 0x650a7354, 0x766a0abb, 0x81c2c92e, 0x92722c85,
	0xa2bfe8a1, 0xa81a664b, 0xc24b8b70, 0xc76c51a3, 0xd192e819, 0xd6990624, 0xf40e3585, 0x106aa070,
	0x19a4c116, 0x1e376c08, 0x2748774c, 0x34b0bcb5, 0x391c0cb3, 0x4ed8aa4a, 0x5b9cca4f, 0x682e6ff3,
	0x748f82ee, 0x78a5636f, 0x84c87814, 0x8cc70208, 0x90befffa, 0xa4506ceb, 0xbef9a3f7, 0xc67178f2,
}

// mixed gives the state with the block mixed in.
func mixed(state [8]uint32, block [blockSize]byte) [8]uint32 {
	now := rounds(state, schedule(block))
	for i := range len(state) {
		state[i] += now[i]
	}
	return state
}

// schedule gives the words of a block, one for each round.
func schedule(block [blockSize]byte) [64]uint32 {
	var words [64]uint32
	for i := range 16 {
		four := block[4*i:][:4]
		words[i] = uint32(four[0])<<24 | uint32(four[1])<<16 | uint32(four[2])<<8 | uint32(four[3])
	}
	for i := range len(words) - 16 {
		old, late := words[i+1], words[i+14]
		words[i+16] = words[i] + words[i+9] +
			(right(old, 7) ^ right(old, 18) ^ old>>3) +
			(right(late, 17) ^ right(late, 19) ^ late>>10)
	}
	return words
}

// rounds gives the state behind a round with each of the words.
func rounds(state [8]uint32, words [64]uint32) [8]uint32 {
	// Eight variables go round in less than half the time of an array that each round answers anew.
	a, b, c, d := state[0], state[1], state[2], state[3]
	e, f, g, h := state[4], state[5], state[6], state[7]
	for i := range len(words) {
		t := h + constants[i] + words[i] + (right(e, 6) ^ right(e, 11) ^ right(e, 25)) + (e&f | ^e&g)
		u := (right(a, 2) ^ right(a, 13) ^ right(a, 22)) + (a&b | a&c | b&c)
		h, g, f, e = g, f, e, d+t
		d, c, b, a = c, b, a, t+u
	}
	return [8]uint32{a, b, c, d, e, f, g, h}
}

// right turns a word to the right.
func right(word uint32, by int) uint32 { return bits.RotateLeft32(word, -by) }
