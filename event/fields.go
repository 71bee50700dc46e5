package event

import (
	"strings"

	"engross/api"
	"engross/nums"
)

// fields points to a thing's numbers, in the order of its bytes. Each is a *int or a *int64, as api has numbers of both kinds.
type fields []any

func ofEvent(e *api.Event) fields {
	return fields{&e.Kind, &e.Acc, &e.Ord, &e.Sym, &e.Side, &e.Qty, &e.Price}
}

func ofVerdict(v *api.Verdict) fields { return fields{&v.Code, &v.Need} }

func ofPair(p *api.Pair) fields {
	return append(ofEvent(&p.Event), ofVerdict(&p.Verdict)...)
}

// written gives the bytes of the numbers.
func written(list fields) string {
	var out strings.Builder
	for _, field := range list {
		switch n := field.(type) {
		case *int:
			out.WriteString(nums.Int(int64(*n)))
		case *int64:
			out.WriteString(nums.Int(*n))
		}
	}
	return out.String()
}

// read gives the thing that has the bytes s, and no others; of tells its numbers.
func read[T any](s string, of func(*T) fields) (T, api.Errno) {
	var thing, zero T
	r := nums.Read(s)
	for _, field := range of(&thing) {
		switch n := field.(type) {
		case *int:
			*n = int(r.Int())
		case *int64:
			*n = r.Int()
		}
	}
	if r.Left() > 0 {
		// An earlier fault stays.
		r.Fail(api.ErrForm)
	}
	if e := r.Fault(); e != api.OK {
		// Numbers ahead of the fault were read.
		return zero, e
	}
	return thing, api.OK
}
