package prim

import (
	"slices"

	"windrow/api"
	"windrow/array"
)

// count is Iota.
func count(a api.Array) (api.Array, api.Errno) {
	if len(a.Sides) > 0 {
		return api.Array{}, api.ErrPrimRank
	}
	if !counts(a.Data[0]) {
		return api.Array{}, api.ErrPrimCount
	}
	return build(a.Data, func(place int) (int64, api.Errno) {
		return int64(place), api.OK
	})
}

// counts tells whether a number may be a side.
func counts(n int64) bool { return n >= 0 && n <= api.MaxSize }

// reverse is Rev.
func reverse(a api.Array) api.Array {
	lanes, _ := array.Lanes(a)
	for _, lane := range lanes {
		slices.Reverse(lane)
	}
	return api.Array{Sides: fresh(a.Sides), Data: slices.Concat(lanes...)}
}

// turn is Turn.
func turn(a api.Array) (api.Array, api.Errno) {
	sides := fresh(a.Sides)
	slices.Reverse(sides)
	return build(sides, func(place int) (int64, api.Errno) {
		index, _ := array.Index(sides, int64(place))
		slices.Reverse(index)
		from, e := array.Place(a.Sides, index)
		return a.Data[from], e
	})
}

// reshape is Rho.
func reshape(a, b api.Array) (api.Array, api.Errno) {
	if len(a.Sides) > 1 {
		return api.Array{}, api.ErrPrimRank
	}
	sides := a.Data
	if len(sides) > api.MaxRank {
		return api.Array{}, api.ErrPrimCount
	}
	for _, side := range sides {
		if !counts(side) {
			return api.Array{}, api.ErrPrimCount
		}
	}
	return build(sides, func(place int) (int64, api.Errno) {
		if len(b.Data) == 0 {
			return 0, api.ErrPrimShape
		}
		return b.Data[place%len(b.Data)], api.OK
	})
}

// cut is Take, or Drop.
func cut(take bool, a, b api.Array) (api.Array, api.Errno) {
	if len(a.Sides) > 0 || len(b.Sides) == 0 {
		return api.Array{}, api.ErrPrimRank
	}
	n, cells := a.Data[0], b.Sides[0]
	// The number's sign isn't taken off: of the least number that would leave the least number.
	if n > cells || n < -cells {
		return api.Array{}, api.ErrPrimCount
	}
	// There is one cut, and either part of it is asked for.
	ahead, at := take == (n >= 0), n
	if n < 0 {
		at += cells
	}
	if ahead {
		return part(b, 0, at), api.OK
	}
	return part(b, at, cells), api.OK
}

// part is the array of the cells from one on up to another, that one not.
func part(a api.Array, from, to int64) api.Array {
	sides := fresh(a.Sides)
	sides[0] = to - from
	// Without cells there are no numbers, whatever a cell's size is.
	size := int64(len(a.Data)) / max(a.Sides[0], 1)
	return api.Array{Sides: sides, Data: fresh(a.Data[from*size : to*size])}
}

// join is Cat.
func join(a, b api.Array) (api.Array, api.Errno) {
	a, b = sided(a), sided(b)
	if len(a.Sides) != len(b.Sides) || !slices.Equal(a.Sides[1:], b.Sides[1:]) {
		return api.Array{}, api.ErrPrimShape
	}
	sides := fresh(a.Sides)
	sides[0] += b.Sides[0]
	if _, e := array.Size(sides); e != api.OK {
		return api.Array{}, api.ErrPrimSize
	}
	return api.Array{Sides: sides, Data: slices.Concat(a.Data, b.Data)}, api.OK
}

// sided is the array, by one side if it has none.
func sided(a api.Array) api.Array {
	if len(a.Sides) > 0 {
		return a
	}
	return api.Array{Sides: []int64{1}, Data: a.Data}
}
