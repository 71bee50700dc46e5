package sha

// Hash takes bytes in pieces, and tells the digest of all that came.
type Hash struct {
	state [8]uint32       // every whole block is mixed in
	block [blockSize]byte // the bytes behind those stand at its beginning
	size  uint64          // how many bytes came
}

// New gives a hash of no bytes. The first state is the first 32 bits behind the point of the square roots of the first 8 primes.
func New() *Hash {
	return &Hash{state: [8]uint32{
		0x6a09e667, 0xbb67ae85, 0x3c6ef372, 0xa54ff53a, 0x510e527f, 0x9b05688c, 0x1f83d9ab, 0x5be0cd19,
	}}
}

// Write puts s behind the bytes that came.
func (h *Hash) Write(s string) {
	if h == nil {
		return
	}
	for len(s) > 0 {
		n := copy(h.block[h.size%blockSize:], s)
		s = s[n:]
		h.size += uint64(n)
		if h.size%blockSize == 0 {
			h.state = mixed(h.state, h.block)
		}
	}
}

// Sum gives the digest of all bytes that came.
func (h *Hash) Sum() string {
	if h == nil {
		return ""
	}
	// The ending goes into a copy, so that more bytes may come to h.
	last := *h
	last.Write(ending(h.size))
	digest := make([]byte, 0, 4*len(last.state))
	for _, word := range last.state {
		digest = highestFirst(digest, uint64(word), 4)
	}
	return string(digest)
}

// Len tells how many bytes came.
func (h *Hash) Len() uint64 {
	if h == nil {
		return 0
	}
	return h.size
}

// ending gives what comes behind size bytes: the byte 128, noughts up to a whole block, and how many bits they have.
func ending(size uint64) string {
	const fixed = 1 + 8 // the byte 128 and the number of bits
	// A block more is added, for what is left of the last one may be less than fixed.
	noughts := (2*blockSize - fixed - size%blockSize) % blockSize
	out := make([]byte, 1+noughts, fixed+noughts)
	out[0] = 128
	return string(highestFirst(out, 8*size, 8))
}

// highestFirst puts the lowest count bytes of n behind out, the highest of them first.
func highestFirst(out []byte, n uint64, count int) []byte {
	for i := range count {
		out = append(out, byte(n>>(8*(count-1-i))))
	}
	return out
}
