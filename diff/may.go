package diff

import "slices"

// may tells whether changes may be.
func may(l []Change) bool {
	for i, c := range l {
		if i > 0 && compare(l[i-1].at(), c.at()) >= 0 || !keyMay(c) || !valuesMay(c) {
			return false
		}
	}
	return true
}

// keyMay tells whether a change's list is there, and its key one of that list.
func keyMay(c Change) bool {
	switch c.List {
	case stakes:
		return true
	case holders, opens, rates:
		return c.B == 0
	}
	return c.at() == key{count}
}

// valuesMay tells whether the values of a change may be, of a key that may be.
func valuesMay(c Change) bool {
	for _, v := range [][]int64{c.Was, c.Is} {
		if len(v) == 0 && c.List != count {
			continue
		}
		if len(v) != size(c.List) || c.List == opens && v[2] != 0 && v[2] != 1 {
			return false
		}
	}
	// None is like none.
	return !slices.Equal(c.Was, c.Is)
}

// size tells how many values a thing of the list has.
func size(list int) int {
	switch list {
	case holders:
		return 3
	case opens:
		return 5
	}
	return 1
}
