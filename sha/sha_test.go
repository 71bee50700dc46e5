package sha_test

import (
	"crypto/sha256"
	"encoding/hex"
	"math"
	"strings"
	"testing"

	"engross/api"
	"engross/sha"
)

// bytesOf gives n bytes of many values, which hang on n and on seed alone.
func bytesOf(n, seed int) string {
	out := make([]byte, n)
	x := uint32(seed)*2654435761 + uint32(n) + 1
	for i := range out {
		x = x*1664525 + 1013904223
		out[i] = byte(x >> 24)
	}
	return string(out)
}

// digest is the library's, against which the package is held.
func digest(s string) string {
	d := sha256.Sum256([]byte(s))
	return string(d[:])
}

// P2.1: digests that are written down elsewhere.
func TestSumOfKnownTexts(t *testing.T) {
	for s, want := range map[string]string{
		"":    "e3b0c44298fc1c149afbf4c8996fb92427ae41e4649b934ca495991b7852b855",
		"abc": "ba7816bf8f01cfea414140de5dae2223b00361a396177a9cb410ff61f20015ad",
		"abcdbcdecdefdefgefghfghighijhijkijkljklmklmnlmnomnopnopq":                                                         "248d6a61d20638b8e5c026930c3e6039a33ce45964ff2167f6ecedd419db06c1",
		"abcdefghbcdefghicdefghijdefghijkefghijklfghijklmghijklmnhijklmnoijklmnopjklmnopqklmnopqrlmnopqrsmnopqrstnopqrstu": "cf5b16a778af8380036ce59e7b0492370b249b11e8f07a51afac45037afee9d1",
		"The quick brown fox jumps over the lazy dog":                                                                      "d7a8fbb307d7809469ca9abcb0082e4f8d5651e46d3cdb762d02d0bf37c9e592",
		"\x00":                          "6e340b9cffb37a989ca544e6bb780a2c78901d3fb33738768511a30617afa01d",
		"\xbd":                          "68325720aabd7c82f30f554b313d0570c95accbb7dc4b5aae11204c08ffe732b",
		"\xc9\x8c\x8e\x55":              "7abc22c0ae5af26ce93dbb94433a0e0b2e119d014f8e7f65bd56c61ccccd9504",
		strings.Repeat("\x00", 64):      "f5a5fd42d16a20302798ef6ed309979b43003d2320d9f0e8ea9831a92759fb4b",
		strings.Repeat("a", 1000000):    "cdc76e5c9914fb9281a1c7e284d73e67f1809a48a497200e046d39ccc7112cd0",
		strings.Repeat("\x00", 1000000): "d29751f2649b32ff572b5e0a9f541ea660a50f94ff0beedfb0b692b924cc8025",
	} {
		if got := hex.EncodeToString([]byte(sha.Sum(s))); got != want {
			t.Errorf("Sum(%.20q) of %d bytes: %s, not %s", s, len(s), got, want)
		}
	}
}

// P2.1: every length about the ends of the first blocks, where the ending needs one block more or doesn't.
func TestSumOfEveryLength(t *testing.T) {
	for n := range 600 {
		for _, s := range []string{bytesOf(n, 1), strings.Repeat("\x00", n), strings.Repeat("\xff", n), strings.Repeat("\x80", n)} {
			if got := sha.Sum(s); got != digest(s) {
				t.Errorf("Sum of %d bytes, %.4q first: %x, not %x", n, s, got, digest(s))
			}
		}
	}
	for _, n := range []int{4095, 4096, 8191, 8192, 8193, 65535, 65536, 65537, 1 << 20, 1<<21 + 1} {
		s := bytesOf(n, 2)
		if got := sha.Sum(s); got != digest(s) {
			t.Errorf("Sum of %d bytes: %x, not %x", n, got, digest(s))
		}
	}
}

// P2.1: a bit anywhere in a block makes another digest, the library's.
func TestSumOfSingleBits(t *testing.T) {
	for i := range 128 {
		for bit := range 8 {
			s := []byte(strings.Repeat("\x00", 128))
			s[i] = 1 << bit
			if got := sha.Sum(string(s)); got != digest(string(s)) {
				t.Errorf("bit %d of byte %d: %x, not %x", bit, i, got, digest(string(s)))
			}
		}
	}
}

// P2.1: bytes count, not letters, whether or not they are text.
func TestSumOfBytesThatAreNoText(t *testing.T) {
	for _, s := range []string{"é", "\xff\xfe", "\xc3", "a\x00b", "\xed\xa0\x80", "日本", "\n", "\r\n"} {
		if got := sha.Sum(s); got != digest(s) {
			t.Errorf("Sum(%q): %x, not %x", s, got, digest(s))
		}
	}
}

// P2.1: the digest's first bytes, as many as may be.
func TestCutGivesTheFirstBytes(t *testing.T) {
	if s, e := sha.Cut("abc", 2); s != "\xba\x78" || e != api.OK {
		t.Errorf("Cut(abc, 2): %q %d", s, e)
	}
	for _, s := range []string{"", "abc", bytesOf(64, 3), bytesOf(1000, 3)} {
		for n := 1; n <= 32; n++ {
			if got, e := sha.Cut(s, n); got != digest(s)[:n] || e != api.OK {
				t.Errorf("Cut of %d bytes to %d: %x %d", len(s), n, got, e)
			}
		}
	}
}

// P2.1: of no bytes, and of more than a digest has, there is an error alone.
func TestCutRefusesOtherLengths(t *testing.T) {
	for _, n := range []int{0, -1, -32, 33, 34, 64, 256, 1 << 32, 1<<32 + 1, math.MaxInt, math.MinInt, math.MinInt + 1} {
		for _, s := range []string{"", "abc"} {
			if got, e := sha.Cut(s, n); got != "" || e != api.ErrArg {
				t.Errorf("Cut(%q, %d): %q %d", s, n, got, e)
			}
		}
	}
}

// P2.1: digits of base 16, two for each byte of whatever kind.
func TestHexGivesTwoDigitsEach(t *testing.T) {
	for s, want := range map[string]string{
		"": "", "\x00": "00", "\x00\xaf": "00af", "\x09\x0a\x0f\x10": "090a0f10", "\x9f\xa0\xff": "9fa0ff", "abc": "616263", "é": "c3a9", "\xc3": "c3", "日": "e697a5",
	} {
		if got := sha.Hex(s); got != want {
			t.Errorf("Hex(%q): %q, not %q", s, got, want)
		}
	}
	var all []byte
	for b := range 256 {
		all = append(all, byte(b))
		if got, want := sha.Hex(string([]byte{byte(b)})), hex.EncodeToString([]byte{byte(b)}); got != want {
			t.Errorf("Hex of the byte %d: %q, not %q", b, got, want)
		}
	}
	for _, s := range []string{string(all), bytesOf(1000, 4)} {
		if got, want := sha.Hex(s), hex.EncodeToString([]byte(s)); got != want {
			t.Errorf("Hex of %d bytes: %q, not %q", len(s), got, want)
		}
	}
}

// P2.1 and rule 6: what was asked ahead doesn't change what is answered.
func TestSumHangsOnItsArgumentAlone(t *testing.T) {
	long, short := bytesOf(200, 5), "abc"
	for range 3 {
		if sha.Sum(long) != digest(long) || sha.Sum(short) != digest(short) || sha.Sum("") != digest("") {
			t.Error("a digest hangs on those ahead of it")
		}
	}
}
