package prim_test

import (
	"math"
	"slices"
	"testing"

	"windrow/api"
	"windrow/array"
	"windrow/prim"
	"windrow/word"
)

type list = []int64

const (
	most     = api.MaxSize
	greatest = math.MaxInt64
	least    = math.MinInt64
)

func by(sides list, data ...int64) api.Array { return api.Array{Sides: sides, Data: data} }

func vec(data ...int64) api.Array { return by(list{int64(len(data))}, data...) }

func num(n int64) api.Array { return by(nil, n) }

func same(a, b api.Array) bool {
	return slices.Equal(a.Sides, b.Sides) && slices.Equal(a.Data, b.Data)
}

func clone(a api.Array) api.Array {
	return api.Array{Sides: slices.Clone(a.Sides), Data: slices.Clone(a.Data)}
}

// counted are all indexes by sides in order, by counting up from the first one, the last number the fastest.
func counted(sides list) []list {
	if slices.Contains(sides, 0) {
		return nil
	}
	all := []list{make(list, len(sides))}
	for {
		next := slices.Clone(all[len(all)-1])
		k := len(sides) - 1
		for k >= 0 && next[k] == sides[k]-1 {
			next[k] = 0
			k--
		}
		if k < 0 {
			return all
		}
		next[k]++
		all = append(all, next)
	}
}

// made is the array of these sides with the number that is told for each index.
func made(sides list, told func(index list) int64) api.Array {
	a := api.Array{Sides: slices.Clone(sides)}
	for _, index := range counted(sides) {
		a.Data = append(a.Data, told(index))
	}
	return a
}

// at is an array's number by an index.
func at(a api.Array, index list) int64 {
	place := int64(0)
	for k, n := range index {
		place = place*a.Sides[k] + n
	}
	return a.Data[place]
}

// filled is an array of the numbers first, first + 3, first + 6 ..
func filled(first int64, sides ...int64) api.Array {
	n := first - 3
	return made(sides, func(list) int64 {
		n += 3
		return n
	})
}

// smallSides are all sides from 0 to 3, up to four of them.
func smallSides() []list {
	all := []list{nil}
	for at := 0; at < len(all); at++ {
		for side := range int64(4) {
			if len(all[at]) < 4 {
				all = append(all, append(slices.Clone(all[at]), side))
			}
		}
	}
	return all
}

// noArrays are arguments that are no arrays.
func noArrays() []api.Array {
	return []api.Array{
		{},
		{Data: list{1, 2}},
		{Sides: list{1}},
		{Sides: list{0}, Data: list{1}},
		{Sides: list{2, 3}, Data: make(list, 5)},
		{Sides: list{2, 3}, Data: make(list, 7)},
		{Sides: list{-1}},
		{Sides: list{-1}, Data: list{1}},
		{Sides: list{-1, -1}, Data: list{1}},
		{Sides: list{most + 1}, Data: make(list, most+1)},
		{Sides: list{most + 1, 0}},
		{Sides: list{1 << 32, 1 << 32}},
		{Sides: list{1, 1, 1, 1, 1}, Data: list{1}},
		{Sides: list{0, 0, 0, 0, 0}},
		{Sides: list{1 << 9, 1 << 8}, Data: make(list, 1<<17)},
	}
}

func isMonad(f api.Fn) bool {
	return word.Takes(f, false) || slices.Contains([]api.Fn{api.Iota, api.Shape, api.Ravel, api.Rev, api.Turn}, f)
}

func isDyad(f api.Fn) bool {
	return word.Takes(f, true) || slices.Contains([]api.Fn{api.Rho, api.Take, api.Drop, api.Cat}, f)
}

// functions are all that are functions by a test.
func functions(is func(f api.Fn) bool) []api.Fn {
	var all []api.Fn
	for f := range 256 {
		if is(api.Fn(f)) {
			all = append(all, api.Fn(f))
		}
	}
	return all
}

func ofTwo(f api.Fn) bool { return word.Takes(f, true) }

type one = func(api.Fn, api.Array) (api.Array, api.Errno)

type two = func(api.Fn, api.Array, api.Array) (api.Array, api.Errno)

func checkOne(t *testing.T, call one, f api.Fn, a, wanted api.Array, code api.Errno) {
	t.Helper()
	if c, e := call(f, a); !same(c, wanted) || e != code {
		t.Errorf("%d of %.80v: %.80v, %d; not %.80v, %d", f, a, c, e, wanted, code)
	}
}

func checkTwo(t *testing.T, call two, f api.Fn, a, b, wanted api.Array, code api.Errno) {
	t.Helper()
	if c, e := call(f, a, b); !same(c, wanted) || e != code {
		t.Errorf("%d of %.80v and %.80v: %.80v, %d; not %.80v, %d", f, a, b, c, e, wanted, code)
	}
}

func refusedOne(t *testing.T, call one, f api.Fn, a api.Array, code api.Errno) {
	t.Helper()
	checkOne(t, call, f, a, api.Array{}, code)
}

func refusedTwo(t *testing.T, call two, f api.Fn, a, b api.Array, code api.Errno) {
	t.Helper()
	checkTwo(t, call, f, a, b, api.Array{}, code)
}

// All calls: the errors that are told ahead of all others.

func TestForm(t *testing.T) {
	for _, a := range noArrays() {
		for f := range 256 {
			f := api.Fn(f)
			refusedOne(t, prim.Monad, f, a, api.ErrArrayForm)
			refusedOne(t, prim.Fold, f, a, api.ErrArrayForm)
			refusedOne(t, prim.Scan, f, a, api.ErrArrayForm)
			for _, other := range []api.Array{num(1), vec(), filled(1, 2, 3), a} {
				refusedTwo(t, prim.Dyad, f, a, other, api.ErrArrayForm)
				refusedTwo(t, prim.Dyad, f, other, a, api.ErrArrayForm)
				refusedTwo(t, prim.Outer, f, a, other, api.ErrArrayForm)
				refusedTwo(t, prim.Outer, f, other, a, api.ErrArrayForm)
			}
		}
	}
}

func TestFn(t *testing.T) {
	arrays := []api.Array{num(1), num(-1), vec(), vec(1), vec(1, 2, 3), filled(1, 2, 3), filled(1, 1, 1, 1, 1), by(list{most, most, 0})}
	for f := range 256 {
		f := api.Fn(f)
		for _, a := range arrays {
			checkFn(t, isMonad(f), prim.Monad, f, a)
			checkFn(t, ofTwo(f), prim.Fold, f, a)
			checkFn(t, ofTwo(f), prim.Scan, f, a)
			for _, b := range arrays {
				left := func(call two) one {
					return func(f api.Fn, b api.Array) (api.Array, api.Errno) { return call(f, a, b) }
				}
				checkFn(t, isDyad(f), left(prim.Dyad), f, b)
				checkFn(t, ofTwo(f), left(prim.Outer), f, b)
			}
		}
	}
}

func checkFn(t *testing.T, is bool, call one, f api.Fn, a api.Array) {
	t.Helper()
	c, e := call(f, a)
	if (e == api.ErrPrimFn) == is || (!is && !same(c, api.Array{})) {
		t.Errorf("%d of %v: %v, %d", f, a, c, e)
	}
}

// P7.1

func TestP71Numbers(t *testing.T) {
	for _, f := range functions(func(f api.Fn) bool { return word.Takes(f, false) }) {
		for _, s := range smallSides() {
			a := made(s, func(i list) int64 { return int64(len(i)) % 2 })
			if f != api.Not && f != api.Divide {
				a = filled(-30, s...)
			} else if f == api.Divide {
				a = filled(-31, s...)
			}
			wanted := made(s, func(i list) int64 {
				n, _ := word.Monad(f, at(a, i))
				return n
			})
			checkOne(t, prim.Monad, f, a, wanted, api.OK)
		}
	}
	checkOne(t, prim.Monad, api.Minus, vec(1, -2, 0, least), vec(-1, 2, 0, least), api.OK)
	checkOne(t, prim.Monad, api.Times, by(list{2, 2}, 5, 0, -3, greatest), by(list{2, 2}, 1, 0, -1, 1), api.OK)
	checkOne(t, prim.Monad, api.Not, num(1), num(0), api.OK)
	checkOne(t, prim.Monad, api.Divide, vec(1, -3), vec(1, -1), api.OK)
	checkOne(t, prim.Monad, api.Residue, vec(-7, 7), vec(7, 7), api.OK)
	checkOne(t, prim.Monad, api.Plus, by(list{2, most, 0}), by(list{2, most, 0}), api.OK)
}

func TestP71Refused(t *testing.T) {
	for _, s := range smallSides() {
		for place := range counted(s) {
			a := made(s, func(list) int64 { return 1 })
			a.Data[place] = 2
			refusedOne(t, prim.Monad, api.Not, a, api.ErrDomain)
			a.Data[place] = 0
			refusedOne(t, prim.Monad, api.Divide, a, api.ErrDomain)
		}
	}
	checkOne(t, prim.Monad, api.Not, by(list{3, 0}), by(list{3, 0}), api.OK)
}

func TestP71Iota(t *testing.T) {
	checkOne(t, prim.Monad, api.Iota, num(0), vec(), api.OK)
	checkOne(t, prim.Monad, api.Iota, num(1), vec(0), api.OK)
	checkOne(t, prim.Monad, api.Iota, num(5), vec(0, 1, 2, 3, 4), api.OK)
	c, e := prim.Monad(api.Iota, num(most))
	if e != api.OK || !array.Right(c) || !slices.Equal(c.Sides, list{most}) {
		t.Error(e)
	}
	for place, n := range c.Data {
		if int64(place) != n {
			t.Fatal(place, n)
		}
	}
	for _, n := range []int64{-1, most + 1, 1 << 32, greatest, least} {
		refusedOne(t, prim.Monad, api.Iota, num(n), api.ErrPrimCount)
	}
	for _, a := range []api.Array{vec(), vec(3), vec(-1), by(list{1, 1}, 3), vec(1, 2), by(list{0, 5})} {
		refusedOne(t, prim.Monad, api.Iota, a, api.ErrPrimRank)
	}
}

func TestP71Parts(t *testing.T) {
	for _, s := range smallSides() {
		a := filled(100, s...)
		checkOne(t, prim.Monad, api.Shape, a, vec(s...), api.OK)
		checkOne(t, prim.Monad, api.Ravel, a, vec(a.Data...), api.OK)
	}
	checkOne(t, prim.Monad, api.Shape, num(7), by(list{0}), api.OK)
	checkOne(t, prim.Monad, api.Shape, by(list{1, 3}, 1, 2, 3), vec(1, 3), api.OK)
	checkOne(t, prim.Monad, api.Shape, by(list{most, 0, most}), vec(most, 0, most), api.OK)
	checkOne(t, prim.Monad, api.Ravel, num(7), vec(7), api.OK)
	checkOne(t, prim.Monad, api.Ravel, by(list{most, 0, most}), by(list{0}), api.OK)
}

func TestP71Rev(t *testing.T) {
	checkOne(t, prim.Monad, api.Rev, num(7), num(7), api.OK)
	checkOne(t, prim.Monad, api.Rev, vec(1, 2, 3), vec(3, 2, 1), api.OK)
	checkOne(t, prim.Monad, api.Rev, by(list{2, 3}, 1, 2, 3, 4, 5, 6), by(list{2, 3}, 3, 2, 1, 6, 5, 4), api.OK)
	for _, s := range smallSides() {
		a, last := filled(100, s...), len(s)-1
		wanted := made(s, func(i list) int64 {
			i = slices.Clone(i)
			if last >= 0 {
				i[last] = s[last] - 1 - i[last]
			}
			return at(a, i)
		})
		checkOne(t, prim.Monad, api.Rev, a, wanted, api.OK)
	}
	checkOne(t, prim.Monad, api.Rev, by(list{most, 0, most}), by(list{most, 0, most}), api.OK)
}

func TestP71Turn(t *testing.T) {
	checkOne(t, prim.Monad, api.Turn, num(7), num(7), api.OK)
	checkOne(t, prim.Monad, api.Turn, vec(1, 2, 3), vec(1, 2, 3), api.OK)
	checkOne(t, prim.Monad, api.Turn, by(list{2, 3}, 1, 2, 3, 4, 5, 6), by(list{3, 2}, 1, 4, 2, 5, 3, 6), api.OK)
	for _, s := range smallSides() {
		a, turned := filled(100, s...), slices.Clone(s)
		slices.Reverse(turned)
		wanted := made(turned, func(i list) int64 {
			i = slices.Clone(i)
			slices.Reverse(i)
			return at(a, i)
		})
		checkOne(t, prim.Monad, api.Turn, a, wanted, api.OK)
	}
	checkOne(t, prim.Monad, api.Turn, by(list{most, 5, 0}), by(list{0, 5, most}), api.OK)
	checkOne(t, prim.Monad, api.Turn, filled(1, most, 1), filled(1, 1, most), api.OK)
}

// P7.2

// wantedPairs is what P7.2 says of functions of two numbers, where none is refused.
func wantedPairs(f api.Fn, a, b api.Array) (api.Array, api.Errno) {
	sides := a.Sides
	if len(sides) == 0 {
		sides = b.Sides
	}
	if len(a.Sides) > 0 && len(b.Sides) > 0 && !slices.Equal(a.Sides, b.Sides) {
		return api.Array{}, api.ErrPrimShape
	}
	return made(sides, func(i list) int64 {
		n, _ := word.Dyad(f, at(a, i[:len(a.Sides)]), at(b, i[:len(b.Sides)]))
		return n
	}), api.OK
}

func TestP72Numbers(t *testing.T) {
	for _, s := range smallSides() {
		for _, u := range smallSides() {
			a, b := filled(100, s...), filled(5, u...)
			wanted, code := wantedPairs(api.Minus, a, b)
			checkTwo(t, prim.Dyad, api.Minus, a, b, wanted, code)
		}
	}
	for _, f := range functions(ofTwo) {
		for _, x := range [][2]api.Array{
			{num(1), num(0)},
			{vec(1, 0, 1, 0), vec(1, 1, 1, 1)},
			{num(1), by(list{2, 2}, 1, 1, 1, 1)},
			{by(list{2, 2}, 1, 0, 1, 1), num(1)},
			{num(0), vec()},
			{by(list{0, 3}), by(list{0, 3})},
		} {
			if f == api.Divide && x[1].Data != nil && x[1].Data[0] == 0 {
				continue
			}
			wanted, code := wantedPairs(f, x[0], x[1])
			checkTwo(t, prim.Dyad, f, x[0], x[1], wanted, code)
		}
	}
	checkTwo(t, prim.Dyad, api.Minus, num(10), vec(1, 2), vec(9, 8), api.OK)
	checkTwo(t, prim.Dyad, api.Minus, vec(1, 2), num(10), vec(-9, -8), api.OK)
	checkTwo(t, prim.Dyad, api.Minus, vec(5, 7), vec(1, 2), vec(4, 5), api.OK)
	checkTwo(t, prim.Dyad, api.Minus, num(5), num(7), num(-2), api.OK)
	checkTwo(t, prim.Dyad, api.Plus, vec(greatest), vec(1), vec(least), api.OK)
	checkTwo(t, prim.Dyad, api.Minus, num(5), by(list{most, most, 0}), by(list{most, most, 0}), api.OK)
}

func TestP72Shape(t *testing.T) {
	for _, x := range [][2]api.Array{
		{vec(1, 2), vec(1, 2, 3)},
		{vec(1), vec(1, 2)},
		{vec(1), by(list{1, 1}, 1)},
		{vec(), vec(1)},
		{vec(), by(list{0, 1})},
		{filled(1, 2, 3), filled(1, 3, 2)},
		{filled(1, 2, 3), filled(1, 3)},
		{filled(1, 2, 3), filled(1, 2)},
	} {
		for _, f := range functions(ofTwo) {
			refusedTwo(t, prim.Dyad, f, x[0], x[1], api.ErrPrimShape)
			refusedTwo(t, prim.Dyad, f, x[1], x[0], api.ErrPrimShape)
		}
	}
}

func TestP72Refused(t *testing.T) {
	for _, s := range smallSides() {
		ones := made(s, func(list) int64 { return 1 })
		for place := range counted(s) {
			odd := clone(ones)
			odd.Data[place] = 0
			refusedTwo(t, prim.Dyad, api.Divide, ones, odd, api.ErrDomain)
			refusedTwo(t, prim.Dyad, api.Divide, num(1), odd, api.ErrDomain)
			odd.Data[place] = -1
			refusedTwo(t, prim.Dyad, api.And, odd, ones, api.ErrDomain)
			refusedTwo(t, prim.Dyad, api.Or, odd, num(1), api.ErrDomain)
			refusedTwo(t, prim.Dyad, api.Power, ones, odd, api.ErrDomain)
		}
		if len(ones.Data) > 0 {
			refusedTwo(t, prim.Dyad, api.Divide, ones, num(0), api.ErrDomain)
		} else {
			checkTwo(t, prim.Dyad, api.Divide, ones, num(0), ones, api.OK)
			checkTwo(t, prim.Dyad, api.And, num(7), ones, ones, api.OK)
		}
	}
	// Sides that do not go together are told, though a pair would be refused too.
	refusedTwo(t, prim.Dyad, api.Divide, vec(1, 1), vec(0, 0, 0), api.ErrPrimShape)
}

func TestP72Rho(t *testing.T) {
	checkTwo(t, prim.Dyad, api.Rho, vec(2, 2), vec(1, 2, 3), by(list{2, 2}, 1, 2, 3, 1), api.OK)
	checkTwo(t, prim.Dyad, api.Rho, num(3), vec(7, 8, 9, 10), vec(7, 8, 9), api.OK)
	checkTwo(t, prim.Dyad, api.Rho, num(3), num(5), vec(5, 5, 5), api.OK)
	checkTwo(t, prim.Dyad, api.Rho, vec(), vec(6, 7), num(6), api.OK)
	checkTwo(t, prim.Dyad, api.Rho, num(0), vec(), vec(), api.OK)
	checkTwo(t, prim.Dyad, api.Rho, num(0), vec(1, 2), vec(), api.OK)
	checkTwo(t, prim.Dyad, api.Rho, vec(0, 9), vec(), by(list{0, 9}), api.OK)
	checkTwo(t, prim.Dyad, api.Rho, vec(most, most, most, 0), vec(), by(list{most, most, most, 0}), api.OK)
	checkTwo(t, prim.Dyad, api.Rho, vec(0, most, most), num(1), by(list{0, most, most}), api.OK)
	checkTwo(t, prim.Dyad, api.Rho, num(most), num(4), vec(slices.Repeat(list{4}, most)...), api.OK)
	checkTwo(t, prim.Dyad, api.Rho, vec(1<<8, 1<<8), vec(1, 2), by(list{1 << 8, 1 << 8}, slices.Repeat(list{1, 2}, most/2)...), api.OK)
	for _, s := range smallSides() {
		for n := range int64(5) {
			b, ahead := filled(100, n, 1), int64(-1)
			if n == 0 && !slices.Contains(s, 0) {
				refusedTwo(t, prim.Dyad, api.Rho, vec(s...), b, api.ErrPrimShape)
				continue
			}
			wanted := made(s, func(list) int64 {
				ahead++
				return b.Data[ahead%n]
			})
			checkTwo(t, prim.Dyad, api.Rho, vec(s...), b, wanted, api.OK)
		}
	}
}

func TestP72NoRho(t *testing.T) {
	for _, b := range []api.Array{vec(), num(1), vec(1, 2), filled(1, 2, 3)} {
		// Each with what would be told next, too.
		for _, a := range []api.Array{by(list{1, 1}, 2), by(list{1, 1}, -1), by(list{0, 5}), by(list{1, 5}, -1, -1, -1, -1, -1), by(list{1, 2}, 512, 256)} {
			refusedTwo(t, prim.Dyad, api.Rho, a, b, api.ErrPrimRank)
		}
		for _, a := range []api.Array{
			vec(1, 1, 1, 1, 1), vec(0, 0, 0, 0, 0), vec(-1), num(-1), num(least), num(greatest), num(most + 1), vec(1, 1, 1, -1),
			vec(0, most+1), vec(most+1, 0), vec(512, 256, -1), vec(most, most, most, most+1), filled(0, most),
		} {
			refusedTwo(t, prim.Dyad, api.Rho, a, b, api.ErrPrimCount)
		}
		for _, a := range []api.Array{vec(512, 256), vec(2, most), vec(most, most, most, most), vec(1, most, 1, 2), vec(257, 256)} {
			refusedTwo(t, prim.Dyad, api.Rho, a, b, api.ErrPrimSize)
		}
	}
	for _, a := range []api.Array{num(1), num(most), vec(), vec(1), vec(2, 3), vec(1, 1, 1, 1)} {
		refusedTwo(t, prim.Dyad, api.Rho, a, vec(), api.ErrPrimShape)
		refusedTwo(t, prim.Dyad, api.Rho, a, by(list{most, 0, most}), api.ErrPrimShape)
	}
}

// cells is the array of some of an array's cells.
func cells(a api.Array, from, to int64) api.Array {
	part := api.Array{Sides: slices.Clone(a.Sides)}
	part.Sides[0] = to - from
	for k := from; k < to; k++ {
		c, _ := array.Cell(a, k)
		part.Data = append(part.Data, c.Data...)
	}
	return part
}

func TestP72Take(t *testing.T) {
	for _, s := range smallSides() {
		b := filled(100, s...)
		for n := int64(-4); n <= 4; n++ {
			if len(s) == 0 {
				refusedTwo(t, prim.Dyad, api.Take, num(n), b, api.ErrPrimRank)
				refusedTwo(t, prim.Dyad, api.Drop, num(n), b, api.ErrPrimRank)
				continue
			}
			side := s[0]
			switch {
			case n > side || -n > side:
				refusedTwo(t, prim.Dyad, api.Take, num(n), b, api.ErrPrimCount)
				refusedTwo(t, prim.Dyad, api.Drop, num(n), b, api.ErrPrimCount)
			case n < 0:
				checkTwo(t, prim.Dyad, api.Take, num(n), b, cells(b, side+n, side), api.OK)
				checkTwo(t, prim.Dyad, api.Drop, num(n), b, cells(b, 0, side+n), api.OK)
			default:
				checkTwo(t, prim.Dyad, api.Take, num(n), b, cells(b, 0, n), api.OK)
				checkTwo(t, prim.Dyad, api.Drop, num(n), b, cells(b, n, side), api.OK)
			}
		}
	}
	checkTwo(t, prim.Dyad, api.Take, num(-2), vec(1, 2, 3), vec(2, 3), api.OK)
	checkTwo(t, prim.Dyad, api.Take, num(2), vec(1, 2, 3), vec(1, 2), api.OK)
	checkTwo(t, prim.Dyad, api.Drop, num(-2), vec(1, 2, 3), vec(1), api.OK)
	checkTwo(t, prim.Dyad, api.Drop, num(2), vec(1, 2, 3), vec(3), api.OK)
	checkTwo(t, prim.Dyad, api.Drop, num(0), vec(1, 2, 3), vec(1, 2, 3), api.OK)
	checkTwo(t, prim.Dyad, api.Take, num(0), vec(1, 2, 3), vec(), api.OK)
	checkTwo(t, prim.Dyad, api.Take, num(1), by(list{most, 0, most}), by(list{1, 0, most}), api.OK)
	checkTwo(t, prim.Dyad, api.Drop, num(-1), by(list{most, 0, most}), by(list{most - 1, 0, most}), api.OK)
	checkTwo(t, prim.Dyad, api.Drop, num(0), by(list{0, most, most, most}), by(list{0, most, most, most}), api.OK)
	checkTwo(t, prim.Dyad, api.Take, num(-most), filled(1, most), filled(1, most), api.OK)
}

func TestP72NoTake(t *testing.T) {
	for _, f := range []api.Fn{api.Take, api.Drop} {
		for _, a := range []api.Array{vec(1), vec(), vec(9), by(list{1, 1}, 1), by(list{0, 2}), vec(1, 2)} {
			for _, b := range []api.Array{vec(1, 2), num(1), vec()} {
				refusedTwo(t, prim.Dyad, f, a, b, api.ErrPrimRank)
			}
		}
		for _, n := range []int64{0, 1, -1, 2, greatest, least} {
			refusedTwo(t, prim.Dyad, f, num(n), num(5), api.ErrPrimRank)
		}
		for _, n := range []int64{4, -4, most + 1, 1 << 32, 1<<32 + 1, greatest, least, least + 1} {
			refusedTwo(t, prim.Dyad, f, num(n), vec(1, 2, 3), api.ErrPrimCount)
			refusedTwo(t, prim.Dyad, f, num(n), by(list{3, 0}), api.ErrPrimCount)
			refusedTwo(t, prim.Dyad, f, num(n), by(list{0, most, most}), api.ErrPrimCount)
		}
		refusedTwo(t, prim.Dyad, f, num(1), vec(), api.ErrPrimCount)
		refusedTwo(t, prim.Dyad, f, num(3), filled(1, 2, 5), api.ErrPrimCount)
	}
}

func TestP72Cat(t *testing.T) {
	for _, s := range smallSides() {
		for _, u := range smallSides() {
			a, b := filled(100, s...), filled(2000, u...)
			left, right := a.Sides, b.Sides
			if len(left) == 0 {
				left = list{1}
			}
			if len(right) == 0 {
				right = list{1}
			}
			if len(left) != len(right) || !slices.Equal(left[1:], right[1:]) {
				refusedTwo(t, prim.Dyad, api.Cat, a, b, api.ErrPrimShape)
				continue
			}
			wanted := api.Array{Sides: append(list{left[0] + right[0]}, left[1:]...), Data: slices.Concat(a.Data, b.Data)}
			checkTwo(t, prim.Dyad, api.Cat, a, b, wanted, api.OK)
		}
	}
	checkTwo(t, prim.Dyad, api.Cat, num(7), num(8), vec(7, 8), api.OK)
	checkTwo(t, prim.Dyad, api.Cat, num(7), vec(1, 2), vec(7, 1, 2), api.OK)
	checkTwo(t, prim.Dyad, api.Cat, vec(1, 2), num(7), vec(1, 2, 7), api.OK)
	checkTwo(t, prim.Dyad, api.Cat, num(7), vec(), vec(7), api.OK)
	checkTwo(t, prim.Dyad, api.Cat, by(list{2, 2}, 1, 2, 3, 4), by(list{1, 2}, 5, 6), by(list{3, 2}, 1, 2, 3, 4, 5, 6), api.OK)
}

func TestP72CatSize(t *testing.T) {
	half := filled(0, most/2)
	checkTwo(t, prim.Dyad, api.Cat, half, half, vec(slices.Concat(half.Data, half.Data)...), api.OK)
	checkTwo(t, prim.Dyad, api.Cat, by(list{most - 1, 0, most}), by(list{1, 0, most}), by(list{most, 0, most}), api.OK)
	checkTwo(t, prim.Dyad, api.Cat, by(list{0, most, most}), by(list{0, most, most}), by(list{0, most, most}), api.OK)
	checkTwo(t, prim.Dyad, api.Cat, filled(0, 128, 256), filled(0, 128, 256), by(list{256, 256}, slices.Repeat(filled(0, 128, 256).Data, 2)...), api.OK)
	for _, x := range [][2]api.Array{
		{half, filled(0, most/2+1)},
		{filled(0, most), num(1)},
		{num(1), filled(0, most)},
		{filled(0, most), filled(0, most)},
		{by(list{most, 0}), by(list{1, 0})},
		{by(list{most, most, most, 0}), by(list{most, most, most, 0})},
		{filled(0, 128, 256), filled(0, 129, 256)},
		{filled(0, 1, most), filled(0, 1, most)},
	} {
		refusedTwo(t, prim.Dyad, api.Cat, x[0], x[1], api.ErrPrimSize)
		refusedTwo(t, prim.Dyad, api.Cat, x[1], x[0], api.ErrPrimSize)
	}
	// Sides that do not go together are told ahead of too many numbers.
	refusedTwo(t, prim.Dyad, api.Cat, by(list{most, 0}), by(list{most, 0, 1}), api.ErrPrimShape)
	refusedTwo(t, prim.Dyad, api.Cat, filled(0, most), filled(0, most, 1), api.ErrPrimShape)
}

// P7.3, P7.4

// folded is the fold as P7.3 says it, from its end on.
func folded(f api.Fn, lane list) (int64, api.Errno) {
	if len(lane) == 0 {
		unit, _ := word.Unit(f)
		return unit, api.OK
	}
	last := len(lane) - 1
	if last == 0 {
		return lane[0], api.OK
	}
	ahead, e := folded(f, lane[:last])
	if e != api.OK {
		return 0, e
	}
	return word.Dyad(f, ahead, lane[last])
}

// laneUpTo are the numbers of the lane with an index of the other sides, ahead of an end.
func laneUpTo(a api.Array, others list, end int64) list {
	var lane list
	for k := range end {
		lane = append(lane, at(a, append(slices.Clone(others), k)))
	}
	return lane
}

func wantedFold(f api.Fn, a api.Array) (api.Array, api.Errno) {
	last := len(a.Sides) - 1
	if last < 0 {
		return a, api.OK
	}
	code := api.OK
	wanted := made(a.Sides[:last], func(i list) int64 {
		n, e := folded(f, laneUpTo(a, i, a.Sides[last]))
		code = max(code, e)
		return n
	})
	if code != api.OK {
		return api.Array{}, code
	}
	return wanted, api.OK
}

func wantedScan(f api.Fn, a api.Array) (api.Array, api.Errno) {
	last := len(a.Sides) - 1
	if last < 0 {
		return a, api.OK
	}
	code := api.OK
	wanted := made(a.Sides, func(i list) int64 {
		n, e := folded(f, laneUpTo(a, i[:last], i[last]+1))
		code = max(code, e)
		return n
	})
	if code != api.OK {
		return api.Array{}, code
	}
	return wanted, api.OK
}

func TestP73Fold(t *testing.T) {
	for _, s := range smallSides() {
		for _, f := range functions(ofTwo) {
			for _, a := range []api.Array{filled(-40, s...), filled(1, s...), made(s, func(i list) int64 { return int64(len(i)) % 2 })} {
				wanted, code := wantedFold(f, a)
				checkOne(t, prim.Fold, f, a, wanted, code)
			}
		}
	}
	checkOne(t, prim.Fold, api.Minus, vec(10, 1, 2), num(7), api.OK)
	checkOne(t, prim.Fold, api.Power, vec(2, 3, 2), num(64), api.OK)
	checkOne(t, prim.Fold, api.Plus, by(list{2, 3}, 1, 2, 3, 4, 5, 6), vec(6, 15), api.OK)
	checkOne(t, prim.Fold, api.Minus, by(list{1, 2, 2}, 1, 2, 5, 3), by(list{1, 2}, -1, 2), api.OK)
	checkOne(t, prim.Fold, api.Plus, num(7), num(7), api.OK)
	checkOne(t, prim.Fold, api.Plus, filled(0, most), num(3*(most-1)*most/2), api.OK)
	checkOne(t, prim.Fold, api.Plus, filled(0, most, 1), filled(0, most), api.OK)
}

func TestP73Unit(t *testing.T) {
	for _, f := range functions(ofTwo) {
		unit, _ := word.Unit(f)
		checkOne(t, prim.Fold, f, vec(), num(unit), api.OK)
		checkOne(t, prim.Fold, f, by(list{3, 0}), vec(unit, unit, unit), api.OK)
		checkOne(t, prim.Fold, f, by(list{1, 2, 0}), by(list{1, 2}, unit, unit), api.OK)
		checkOne(t, prim.Fold, f, by(list{0, 0}), vec(), api.OK)
		checkOne(t, prim.Fold, f, by(list{0, 5}), vec(), api.OK)
		checkOne(t, prim.Fold, f, by(list{0, most, most, most}), by(list{0, most, most}), api.OK)
	}
	checkOne(t, prim.Fold, api.Least, vec(), num(greatest), api.OK)
	checkOne(t, prim.Fold, api.Most, vec(), num(least), api.OK)
	checkOne(t, prim.Fold, api.Times, by(list{most, 0}), vec(slices.Repeat(list{1}, most)...), api.OK)
}

func TestP73Refused(t *testing.T) {
	for _, f := range functions(ofTwo) {
		refusedOne(t, prim.Fold, f, by(list{most, most, 0}), api.ErrPrimSize)
		refusedOne(t, prim.Fold, f, by(list{1, 2, most, 0}), api.ErrPrimSize)
		refusedOne(t, prim.Fold, f, by(list{257, 256, 0}), api.ErrPrimSize)
		checkOne(t, prim.Fold, f, by(list{most, 0, most}), by(list{most, 0}), api.OK)
		// One number makes no pair.
		checkOne(t, prim.Fold, f, vec(-5), num(-5), api.OK)
		checkOne(t, prim.Fold, f, by(list{2, 1}, -5, 7), vec(-5, 7), api.OK)
		checkOne(t, prim.Fold, f, num(-5), num(-5), api.OK)
	}
	for _, a := range []api.Array{vec(5, 1), vec(1, 5), vec(1, 1, 5), by(list{2, 2}, 1, 1, 1, 2), by(list{2, 2}, 2, 1, 1, 1)} {
		refusedOne(t, prim.Fold, api.And, a, api.ErrDomain)
		refusedOne(t, prim.Scan, api.And, a, api.ErrDomain)
	}
	refusedOne(t, prim.Fold, api.Divide, vec(1, 2, 0, 3), api.ErrDomain)
	checkOne(t, prim.Fold, api.Divide, vec(0, 2, 3), num(0), api.OK)
}

func TestP74Scan(t *testing.T) {
	for _, s := range smallSides() {
		for _, f := range functions(ofTwo) {
			for _, a := range []api.Array{filled(-40, s...), filled(1, s...), made(s, func(i list) int64 { return int64(len(i)) % 2 })} {
				wanted, code := wantedScan(f, a)
				checkOne(t, prim.Scan, f, a, wanted, code)
			}
		}
	}
	checkOne(t, prim.Scan, api.Minus, vec(10, 1, 2), vec(10, 9, 7), api.OK)
	checkOne(t, prim.Scan, api.Minus, vec(1, 2, 3), vec(1, -1, -4), api.OK)
	checkOne(t, prim.Scan, api.Most, vec(5, 1, 9, 3), vec(5, 5, 9, 9), api.OK)
	checkOne(t, prim.Scan, api.Plus, by(list{2, 3}, 1, 2, 3, 4, 5, 6), by(list{2, 3}, 1, 3, 6, 4, 9, 15), api.OK)
	checkOne(t, prim.Scan, api.Plus, num(7), num(7), api.OK)
	for _, f := range functions(ofTwo) {
		for _, s := range []list{{0}, {3, 0}, {0, 3}, {most, most, 0}, {0, most, most, most}} {
			checkOne(t, prim.Scan, f, by(s), by(s), api.OK)
		}
		checkOne(t, prim.Scan, f, vec(-5), vec(-5), api.OK)
		checkOne(t, prim.Scan, f, by(list{2, 1}, -5, 7), by(list{2, 1}, -5, 7), api.OK)
	}
	refusedOne(t, prim.Scan, api.Divide, vec(1, 2, 0, 3), api.ErrDomain)
	refusedOne(t, prim.Scan, api.Power, by(list{2, 2}, 1, 1, 1, -1), api.ErrDomain)
}

// P7.5

func TestP75Outer(t *testing.T) {
	for _, s := range smallSides() {
		for _, u := range smallSides() {
			a, b := filled(100, s...), filled(5, u...)
			if len(s)+len(u) > 4 {
				refusedTwo(t, prim.Outer, api.Minus, a, b, api.ErrPrimRank)
				continue
			}
			wanted := made(slices.Concat(s, u), func(i list) int64 { return at(a, i[:len(s)]) - at(b, i[len(s):]) })
			checkTwo(t, prim.Outer, api.Minus, a, b, wanted, api.OK)
		}
	}
	for _, f := range functions(ofTwo) {
		a, b := by(list{2, 1}, 1, 0), vec(1, 1, 1)
		wanted := made(list{2, 1, 3}, func(i list) int64 {
			n, _ := word.Dyad(f, at(a, i[:2]), at(b, i[2:]))
			return n
		})
		checkTwo(t, prim.Outer, f, a, b, wanted, api.OK)
	}
	checkTwo(t, prim.Outer, api.Times, vec(1, 2), vec(3, 4), by(list{2, 2}, 3, 4, 6, 8), api.OK)
	checkTwo(t, prim.Outer, api.Minus, num(5), num(3), num(2), api.OK)
	checkTwo(t, prim.Outer, api.Minus, vec(), vec(1, 2), by(list{0, 2}), api.OK)
	checkTwo(t, prim.Outer, api.Minus, vec(1, 2), vec(), by(list{2, 0}), api.OK)
	checkTwo(t, prim.Outer, api.Minus, by(list{most, 0}), filled(1, most), by(list{most, 0, most}), api.OK)
	checkTwo(t, prim.Outer, api.Minus, filled(1, most), by(list{most, 0, most}), by(list{most, most, 0, most}), api.OK)
	c, e := prim.Outer(api.Plus, filled(0, 256), filled(0, 256))
	if !slices.Equal(c.Sides, list{256, 256}) || len(c.Data) != most || c.Data[most-1] != 3*510 || e != api.OK {
		t.Error(c.Sides, e)
	}
}

func TestP75Refused(t *testing.T) {
	for _, f := range functions(ofTwo) {
		refusedTwo(t, prim.Outer, f, by(list{1, 1, 1}, 1), by(list{1, 1}, 1), api.ErrPrimRank)
		refusedTwo(t, prim.Outer, f, by(list{1}, 1), by(list{1, 1, 1, 1}, 1), api.ErrPrimRank)
		refusedTwo(t, prim.Outer, f, by(list{0, 0, 0, 0}), by(list{0}), api.ErrPrimRank)
		refusedTwo(t, prim.Outer, f, by(list{most, 1, 1}, make(list, most)...), by(list{2, 1}, 0, 0), api.ErrPrimRank)
		refusedTwo(t, prim.Outer, f, make1s(257), make1s(256), api.ErrPrimSize)
		refusedTwo(t, prim.Outer, f, make1s(most), make1s(2), api.ErrPrimSize)
		refusedTwo(t, prim.Outer, f, make1s(most), make1s(most), api.ErrPrimSize)
	}
	// Too many numbers are told, though a pair would be refused too.
	refusedTwo(t, prim.Outer, api.Divide, vec(1, 1), by(list{most}, make(list, most)...), api.ErrPrimSize)
	for _, x := range [][2]api.Array{
		{vec(1, 2), vec(1, 0)},
		{vec(1, 2), vec(0, 1)},
		{num(1), vec(1, 0)},
		{vec(1, 1), num(0)},
		{num(1), num(0)},
	} {
		refusedTwo(t, prim.Outer, api.Divide, x[0], x[1], api.ErrDomain)
	}
	refusedTwo(t, prim.Outer, api.And, vec(1, 1, 2), vec(1), api.ErrDomain)
	checkTwo(t, prim.Outer, api.Divide, vec(), vec(0), by(list{0, 1}), api.OK)
	checkTwo(t, prim.Outer, api.And, vec(5), vec(), by(list{1, 0}), api.OK)
}

// make1s is an array of so many 1.
func make1s(n int) api.Array { return vec(slices.Repeat(list{1}, n)...) }
