package clash_test

import (
	"crypto/sha256"
	"encoding/binary"
	"slices"
	"strconv"

	"engross/api"
)

// What the package is held against: the library's digests; all that is hashed for a thing stands in one list, from the whole down, first sides ahead of second ones, and the clash is where two such lists first part.

// digest gives the first n bytes of the digest of s.
func digest(s string, n int) string {
	d := sha256.Sum256([]byte(s))
	return string(d[:n])
}

// downRow lists what is hashed for the root of some leaves, and for all sides below.
func downRow(leaves []string, n int) []string {
	switch len(leaves) {
	case 0:
		return []string{""}
	case 1:
		return []string{"\x00" + leaves[0]}
	}
	at := 1
	for 2*at < len(leaves) {
		at *= 2
	}
	first, second := downRow(leaves[:at], n), downRow(leaves[at:], n)
	return slices.Concat([]string{"\x01" + digest(first[0], n) + digest(second[0], n)}, first, second)
}

// downChain lists what is hashed last for a chain, and for all its beginnings.
func downChain(texts []string, n int) []string {
	all := []string{""}
	for _, s := range texts {
		h := digest(all[len(all)-1], n)
		all = append(all, row(h)+row(s))
	}
	slices.Reverse(all)
	return all
}

// row gives a row's bytes.
func row(s string) string { return string(binary.AppendUvarint(nil, uint64(len(s)))) + s }

// wanted gives what is told of two things by what is hashed for them and below them.
func wanted(a, b []string, n int, down func(texts []string, n int) []string) (string, string, api.Errno) {
	x, y := down(a, n), down(b, n)
	if len(a) != len(b) || digest(x[0], n) != digest(y[0], n) {
		return "", "", api.ErrTwin
	}
	for i := range x {
		if x[i] != y[i] {
			return x[i], y[i], api.OK
		}
	}
	return "", "", api.ErrNone
}

// clashes tells whether two texts aren't alike, and have one digest.
func clashes(x, y string, n int) bool { return x != y && digest(x, n) == digest(y, n) }

// twins gives two of the texts 0, 1 and so on for which unlike bytes of one digest are hashed.
func twins(n int, hashed func(s string) string) (string, string) {
	seen := map[string]string{}
	for i := 0; ; i++ {
		s := strconv.Itoa(i)
		h := digest(hashed(s), n)
		other, ok := seen[h]
		if ok && hashed(other) != hashed(s) {
			return other, s
		}
		seen[h] = s
	}
}

// twinOf gives one of the texts 0, 1 and so on for which other bytes are hashed than for s, that have one digest of a byte with them.
func twinOf(s string, hashed func(s string) string) string {
	for i := 0; ; i++ {
		if t := strconv.Itoa(i); clashes(hashed(s), hashed(t), 1) {
			return t
		}
	}
}

// alphabet gives size texts, what is hashed for which has few digests of one byte, so that things made of them often have one.
func alphabet(size int, hashed func(s string) string) []string {
	var all []string
	for i := 0; len(all) < size; i++ {
		if s := strconv.Itoa(i); digest(hashed(s), 1) < "\x06" {
			all = append(all, s)
		}
	}
	return all
}

// mixed gives many rows of count texts of some, which hang on count alone; many of them are alike in most places.
func mixed(count, many int, some []string) [][]string {
	x := uint32(count) + 1
	next := func(below int) int {
		x = x*1664525 + 1013904223
		return int(x>>8) % below
	}
	var all [][]string
	for i := range many {
		row := make([]string, count)
		for k := range row {
			row[k] = some[next(len(some))]
		}
		if i > 0 && count > 0 && next(3) > 0 {
			row = slices.Clone(all[next(i)])
			row[next(count)] = some[next(len(some))]
		}
		all = append(all, row)
	}
	return all
}
