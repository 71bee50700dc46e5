package shelf_test

import (
	"fmt"
	"math/big"
	"strings"
	"testing"

	"engross/shelf"
)

// asked tells whether Kind answers what it should.
func asked(t *testing.T, s string) {
	t.Helper()
	k, n, ok := shelf.Kind(s)
	if got, want := (told{k, n, ok}), kindOf(s); got != want {
		t.Errorf("Kind(%.40q): %v, not %v", s, got, want)
	}
}

// The examples of chapter 10.
func TestExamplesOfTheChapter(t *testing.T) {
	if s := shelf.Segment(12); s != "s12" {
		t.Errorf("Segment(12): %q", s)
	}
	for s, want := range map[string]told{"c0": {2, 0, true}, "s01": {}} {
		k, n, ok := shelf.Kind(s)
		if got := (told{k, n, ok}); got != want {
			t.Errorf("Kind(%s): %v", s, got)
		}
	}
}

// P10.1: the names of each number, which is there up to 2^40; of another number an empty text.
func TestNames(t *testing.T) {
	for _, n := range numbers() {
		if got, want := shelf.Segment(n), nameOf("s", n); got != want {
			t.Errorf("Segment(%d): %q, not %q", n, got, want)
		}
		if got, want := shelf.Column(n), nameOf("c", n); got != want {
			t.Errorf("Column(%d): %q, not %q", n, got, want)
		}
	}
	if s := shelf.Heads(); s != "heads" {
		t.Errorf("Heads: %q", s)
	}
	for n, want := range map[int]string{0: "0", 1 << 40: "1099511627776", 1<<40 + 1: "", -1: ""} {
		if s := shelf.Segment(n); strings.TrimPrefix(s, "s") != want {
			t.Errorf("Segment(%d): %q", n, s)
		}
		if s := shelf.Column(n); strings.TrimPrefix(s, "c") != want {
			t.Errorf("Column(%d): %q", n, s)
		}
	}
}

// P10.1: each text of up to five of these bytes.
func TestKindOfShortTexts(t *testing.T) {
	const some = "schead0129 -+:/\x00\xb2"
	texts, last := []string{""}, 0
	for range 5 {
		end := len(texts)
		for _, s := range texts[last:end] {
			for i := range len(some) {
				if len(s) < 2 || s[0] == 's' || s[0] == 'c' || s[:2] == "he" {
					texts = append(texts, s+some[i:i+1])
				}
			}
		}
		last = end
	}
	for _, s := range texts {
		asked(t, s)
	}
	if len(texts) < 100000 {
		t.Errorf("only %d texts", len(texts))
	}
}

// P10.1: each byte ahead of a name, behind it, within it, and in the place of one of its own.
func TestKindWithEachByte(t *testing.T) {
	for _, s := range []string{"s0", "c0", "s7", "s12", "c905", "s1099511627776", "heads"} {
		asked(t, s)
		for c := range 256 {
			b := string([]byte{byte(c)})
			asked(t, b)
			asked(t, b+b)
			for i := range len(s) + 1 {
				asked(t, s[:i]+b+s[i:])
				if i < len(s) {
					asked(t, s[:i]+b+s[i+1:])
					asked(t, s[:i])
				}
			}
		}
	}
}

// P10.1: what only looks like a name is none.
func TestKindOfOthers(t *testing.T) {
	for _, s := range []string{
		"S1", "C1", "Heads", "HEADS", "head", "headss", "heads0", "heads ", "h", "h0", "0", "12", "a12",
		"s-0", "s-1", "s+1", "s 1", " s1", "s1 ", "s1\n", "s1.0", "s1e3", "s0x1", "s1_000", "s00", "s01", "s007", "c00", "c0000000000000001",
		"ss1", "sc1", "cs1", "s1s", "s1c1", "1s",
		"ſ1", "с1", "ｓ1", "s١", "s１", "s1１", "c²", "s½", "s๑", // letters and digits of other scripts
		"s\xff", "s1\xff", "\xffs1", "s\xc0\xb1", "s\xed\xa0\x80", "s\x00", "s1\x00", "\ufeffs1",
	} {
		if k, n, ok := shelf.Kind(s); k != 0 || n != 0 || ok {
			t.Errorf("Kind(%q): %d, %d, %v", s, k, n, ok)
		}
	}
	// Numbers that in fewer bits are ones that a name may have.
	for bits := 40; bits < 200; bits++ {
		for _, n := range []int64{-1, 0, 1, 5, 1 << 39} {
			x := new(big.Int).Lsh(big.NewInt(1), uint(bits))
			x.Add(x, big.NewInt(n))
			asked(t, "s"+x.String())
			asked(t, "c"+x.String())
		}
	}
	for _, n := range []int{12, 13, 14, 19, 20, 21, 1000} {
		for _, digit := range "0129" {
			for _, begin := range []string{"s", "c", "x", "s1", ""} {
				asked(t, begin+strings.Repeat(string(digit), n))
			}
		}
	}
	for _, long := range []string{strings.Repeat("0", 1<<24), "1" + strings.Repeat("0", 1<<24), strings.Repeat("s", 1<<24), strings.Repeat("heads", 1<<22)} {
		for _, s := range []string{"s" + long, "c" + long, long} {
			if k, n, ok := shelf.Kind(s); k != 0 || n != 0 || ok {
				t.Errorf("Kind of %d bytes: %d, %d, %v", len(s), k, n, ok)
			}
		}
	}
}

// P10.3: a name is told again as what it is the name of; what is told of a text is what it is the name of; none is that of two.
func TestNamesAndKinds(t *testing.T) {
	seen := map[string]told{}
	see := func(s string, want told) {
		k, n, ok := shelf.Kind(s)
		if got := (told{k, n, ok}); got != want {
			t.Errorf("Kind(%q): %v, not %v", s, got, want)
		}
		if had, there := seen[s]; there && had != want {
			t.Errorf("%q is the name of %v and of %v", s, had, want)
		}
		seen[s] = want
	}
	see(shelf.Heads(), told{3, 0, true})
	see("", told{})
	for _, n := range numbers() {
		if n >= 0 && n <= 1<<40 {
			see(shelf.Segment(n), told{1, n, true})
			see(shelf.Column(n), told{2, n, true})
		}
		for _, begin := range []string{"s", "c", "s0", "c0", "x", ""} {
			s := fmt.Sprintf("%s%d", begin, n)
			k, m, ok := shelf.Kind(s)
			if again := []string{s, shelf.Segment(m), shelf.Column(m), "heads"}[k]; again != s || ok != (k > 0) {
				t.Errorf("Kind(%q): %d, %d, %v, of the name %q", s, k, m, ok, again)
			}
		}
	}
	if len(seen) < 20000 {
		t.Errorf("only %d names", len(seen))
	}
}
