package book

import (
	"cmp"
	"slices"

	"engross/api"
)

// pair is the key of a stake: its account and its symbol.
type pair [2]int64

// byHolder, and those behind it, compare a thing's key with another one.
func byHolder(h api.Holder, id int64) int { return cmp.Compare(h.Id, id) }
func byStake(s api.Stake, key pair) int {
	return cmp.Or(cmp.Compare(s.Acc, key[0]), cmp.Compare(s.Sym, key[1]))
}
func byOpen(o api.Open, id int64) int  { return cmp.Compare(o.Id, id) }
func byRate(r api.Rate, sym int64) int { return cmp.Compare(r.Sym, sym) }

// place tells where in a rising list the key belongs, and whether a thing with it stands there.
func place[T, K any](list []T, key K, compare func(thing T, key K) int) (int, bool) {
	return slices.BinarySearchFunc(list, key, compare)
}

// find gives the thing of a rising list that has the key, and whether there is one.
func find[T, K any](list []T, key K, compare func(thing T, key K) int) (T, bool) {
	at, there := place(list, key, compare)
	if !there {
		var none T
		return none, false
	}
	return list[at], true
}

// put gives a new list, like a rising one, but that in the key's place stand these things alone.
func put[T, K any](list []T, key K, compare func(thing T, key K) int, things ...T) []T {
	at, there := place(list, key, compare)
	ahead, behind := list[:at], list[at:]
	if there {
		behind = behind[1:]
	}
	return slices.Concat(ahead, things, behind)
}

// left gives the thing, if something of it is left, else none.
func left[T any](thing T, rest int64) []T {
	if rest == 0 {
		return nil
	}
	return []T{thing}
}
