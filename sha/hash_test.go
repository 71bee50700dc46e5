package sha_test

import (
	"crypto/sha256"
	"strings"
	"testing"

	"engross/sha"
)

// says tells where h isn't a hash of just the bytes s.
func says(t *testing.T, h *sha.Hash, s string) {
	t.Helper()
	if got := h.Sum(); got != digest(s) {
		t.Errorf("Sum behind %d bytes: %x, not %x", len(s), got, digest(s))
	}
	if got := h.Len(); got != uint64(len(s)) {
		t.Errorf("Len behind %d bytes: %d", len(s), got)
	}
}

// P2.2: a new hash has no bytes, nor gets some by nothing.
func TestNewHasNoBytes(t *testing.T) {
	h := sha.New()
	says(t, h, "")
	h.Write("")
	says(t, h, "")
	h.Write("abc")
	h.Write("")
	says(t, h, "abc")
	says(t, sha.New(), "")
}

// P2.2: telling loses nothing, and adds nothing: told twice the same, and more may come.
func TestSumLosesNothing(t *testing.T) {
	for n := range 200 {
		s, more := bytesOf(n, 1), bytesOf(70, 2)
		h := sha.New()
		h.Write(s)
		says(t, h, s)
		says(t, h, s)
		h.Write(more)
		says(t, h, s+more)
		says(t, h, s+more)
	}
}

// P2.2: hashes have nothing in common.
func TestHashesStandAlone(t *testing.T) {
	a, b := sha.New(), sha.New()
	var inA, inB string
	for i := range 50 {
		x, y := bytesOf(i, 3), bytesOf(2*i+1, 4)
		a.Write(x)
		b.Write(y)
		inA, inB = inA+x, inB+y
		if sha.Sum(x) != digest(x) {
			t.Errorf("Sum of %d bytes beside hashes", len(x))
		}
		says(t, a, inA)
		says(t, b, inB)
	}
}

// P2.2: of nil there is nothing, whatever is written.
func TestNilHash(t *testing.T) {
	var h *sha.Hash
	for range 2 {
		if s, n := h.Sum(), h.Len(); s != "" || n != 0 {
			t.Errorf("of nil: %q, %d", s, n)
		}
		h.Write("")
		h.Write("abc")
		h.Write(strings.Repeat("a", 100))
	}
}

// P2.3: parted once, anywhere.
func TestTwoPieces(t *testing.T) {
	for n := range 200 {
		s := bytesOf(n, 6)
		for at := range n + 1 {
			h := sha.New()
			h.Write(s[:at])
			h.Write(s[at:])
			if h.Sum() != digest(s) || h.Len() != uint64(n) {
				t.Errorf("%d bytes, parted at %d: %x, not %x", n, at, h.Sum(), digest(s))
			}
		}
	}
}

// P2.3: pieces of one length, told after each of them or at the end alone.
func TestPiecesOfOneLength(t *testing.T) {
	s := bytesOf(1000, 7)
	for _, size := range []int{1, 2, 3, 7, 31, 32, 33, 55, 56, 57, 63, 64, 65, 127, 128, 129, 200, 999, 1000} {
		told, quiet := sha.New(), sha.New()
		for at := 0; at < len(s); at += size {
			end := min(at+size, len(s))
			told.Write(s[at:end])
			quiet.Write(s[at:end])
			if told.Sum() != digest(s[:end]) {
				t.Errorf("pieces of %d bytes: other ones behind %d", size, end)
			}
		}
		says(t, told, s)
		says(t, quiet, s)
	}
}

// P2.3: pieces of many lengths, empty ones too.
func TestPiecesOfManyLengths(t *testing.T) {
	for seed := range 200 {
		lengths := bytesOf(40, seed)
		h, library := sha.New(), sha256.New()
		var all strings.Builder
		for i := range len(lengths) {
			piece := bytesOf(int(lengths[i])%(1+3*seed), i)
			h.Write(piece)
			library.Write([]byte(piece))
			all.WriteString(piece)
		}
		if h.Sum() != string(library.Sum(nil)) || h.Sum() != sha.Sum(all.String()) || h.Len() != uint64(all.Len()) {
			t.Errorf("pieces of seed %d: %x, not %x", seed, h.Sum(), library.Sum(nil))
		}
	}
}

// P2.1 to P2.3: how many bits came needs more than 32 bits from half a gibibyte on.
func TestManyBytes(t *testing.T) {
	piece := bytesOf(1<<20, 8)
	h, library := sha.New(), sha256.New()
	for range 512 {
		h.Write(piece)
		library.Write([]byte(piece))
	}
	h.Write("abc")
	library.Write([]byte("abc"))
	if got := h.Sum(); got != string(library.Sum(nil)) {
		t.Errorf("half a gibibyte: %x, not %x", got, library.Sum(nil))
	}
	if h.Len() != 1<<29+3 {
		t.Errorf("half a gibibyte: Len %d", h.Len())
	}
}
