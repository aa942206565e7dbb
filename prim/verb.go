package prim

import (
	"slices"

	"windrow/api"
	"windrow/word"
)

// verb is what a function of two numbers does, and what it makes of none. Which function it is nothing behind this asks.
type verb struct {
	of   func(a, b int64) (int64, api.Errno)
	unit int64
}

// verbOf tells whether f is a function of two numbers, too.
func verbOf(f api.Fn) (verb, bool) {
	if !word.Takes(f, true) {
		return verb{}, false
	}
	unit, _ := word.Unit(f)
	of := func(a, b int64) (int64, api.Errno) { return word.Dyad(f, a, b) }
	return verb{of: of, unit: unit}, true
}

// pair puts the numbers together place by place; one without sides goes with each.
func (v verb) pair(a, b api.Array) (api.Array, api.Errno) {
	if slices.Equal(a.Sides, b.Sides) {
		return build(a.Sides, func(place int) (int64, api.Errno) {
			return v.of(a.Data[place], b.Data[place])
		})
	}
	if len(a.Sides) == 0 {
		return build(b.Sides, func(place int) (int64, api.Errno) {
			return v.of(a.Data[0], b.Data[place])
		})
	}
	if len(b.Sides) == 0 {
		return build(a.Sides, func(place int) (int64, api.Errno) {
			return v.of(a.Data[place], b.Data[0])
		})
	}
	return api.Array{}, api.ErrPrimShape
}

// fold is a lane's fold.
func (v verb) fold(lane []int64) (int64, api.Errno) {
	if len(lane) == 0 {
		return v.unit, api.OK
	}
	n := lane[0]
	for _, next := range lane[1:] {
		var e api.Errno
		if n, e = v.of(n, next); e != api.OK {
			return 0, e
		}
	}
	return n, api.OK
}

// scan makes of each number of a lane the fold up to there.
func (v verb) scan(lane []int64) api.Errno {
	for k := 1; k < len(lane); k++ {
		n, e := v.of(lane[k-1], lane[k])
		if e != api.OK {
			return e
		}
		lane[k] = n
	}
	return api.OK
}
