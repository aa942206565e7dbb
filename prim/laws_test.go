package prim_test

import (
	"math/rand"
	"slices"
	"testing"

	"windrow/api"
	"windrow/array"
	"windrow/prim"
	"windrow/word"
)

// drawn are arrays of all kinds: of small sides, and some of great ones.
func drawn(r *rand.Rand, many int) []api.Array {
	arrays := []api.Array{by(list{most, 0, most}), by(list{0, most, most, most}), filled(1, most), filled(-9, 16, 16, 16, 16)}
	for _, s := range smallSides() {
		arrays = append(arrays, filled(100, s...))
	}
	for range many {
		s := make(list, r.Intn(5))
		for k := range s {
			s[k] = r.Int63n(1 << r.Intn(5))
		}
		a := api.Array{Sides: s}
		size, _ := array.Size(s)
		for range size {
			a.Data = append(a.Data, drawnNumber(r))
		}
		arrays = append(arrays, a)
	}
	return arrays
}

func drawnNumber(r *rand.Rand) int64 {
	edges := list{0, 1, 1, 1, 2, -1, -2, 7, most, greatest, greatest - 1, least, least + 1}
	if r.Intn(2) == 0 {
		return edges[r.Intn(len(edges))]
	}
	return r.Int63n(41) - 20
}

func must(t *testing.T, a api.Array, e api.Errno) api.Array {
	t.Helper()
	if e != api.OK || !array.Right(a) {
		t.Fatalf("%.80v, %d", a, e)
	}
	return a
}

func monad(t *testing.T, f api.Fn, a api.Array) api.Array {
	t.Helper()
	c, e := prim.Monad(f, a)
	return must(t, c, e)
}

func dyad(t *testing.T, f api.Fn, a, b api.Array) api.Array {
	t.Helper()
	c, e := prim.Dyad(f, a, b)
	return must(t, c, e)
}

// P7.6

func TestP76Twice(t *testing.T) {
	for _, a := range drawn(rand.New(rand.NewSource(76)), 200) {
		for _, f := range []api.Fn{api.Rev, api.Turn} {
			if twice := monad(t, f, monad(t, f, a)); !same(twice, a) {
				t.Errorf("%d twice of %.80v: %.80v", f, a, twice)
			}
		}
	}
}

func TestP76TakeDrop(t *testing.T) {
	r := rand.New(rand.NewSource(76))
	for _, a := range drawn(r, 200) {
		if len(a.Sides) == 0 {
			continue
		}
		side := a.Sides[0]
		for _, n := range []int64{0, side, side / 2, r.Int63n(side + 1)} {
			ahead, behind := dyad(t, api.Take, num(n), a), dyad(t, api.Drop, num(n), a)
			if back := dyad(t, api.Cat, ahead, behind); !same(back, a) {
				t.Errorf("cut at %d: %.80v; not %.80v", n, back, a)
			}
			ahead, behind = dyad(t, api.Drop, num(-n), a), dyad(t, api.Take, num(-n), a)
			if n == 0 {
				ahead, behind = behind, ahead
			}
			if back := dyad(t, api.Cat, ahead, behind); !same(back, a) {
				t.Errorf("cut at %d: %.80v; not %.80v", -n, back, a)
			}
		}
	}
}

// P7.7

func TestP77Anew(t *testing.T) {
	for _, a := range drawn(rand.New(rand.NewSource(77)), 200) {
		sides, numbers := monad(t, api.Shape, a), monad(t, api.Ravel, a)
		if anew := dyad(t, api.Rho, sides, numbers); !same(anew, a) {
			t.Errorf("%.80v; not %.80v", anew, a)
		}
	}
}

// TestP77Round: as many numbers as there are make the beginning, and again.
func TestP77Round(t *testing.T) {
	for _, a := range drawn(rand.New(rand.NewSource(78)), 200) {
		many := int64(len(a.Data))
		if many == 0 || 3*many > most {
			continue
		}
		round := dyad(t, api.Rho, num(2*many+many/2), a)
		if !slices.Equal(round.Data, slices.Concat(a.Data, a.Data, a.Data[:many/2])) {
			t.Errorf("%.80v of %.80v", round, a)
		}
	}
}

// P7.8

func TestP78Parts(t *testing.T) {
	r := rand.New(rand.NewSource(78))
	held := 0
	for _, f := range functions(word.Scans) {
		for range 2000 {
			var l list
			for range r.Intn(8) {
				n := drawnNumber(r)
				if f == api.And || f == api.Or {
					n &= 1
				}
				l = append(l, n)
			}
			at := r.Intn(len(l) + 1)
			whole, e := prim.Fold(f, vec(l...))
			left, g := prim.Fold(f, vec(l[:at]...))
			right, h := prim.Fold(f, vec(l[at:]...))
			both, i := prim.Dyad(f, left, right)
			if max(e, g, h, i) != api.OK {
				t.Fatal(f, l, at, e, g, h, i)
			}
			if !same(whole, both) {
				t.Errorf("%d of %v and %v: %v; not %v", f, l[:at], l[at:], both, whole)
			}
			held++
		}
	}
	if held != 12000 {
		t.Error(held)
	}
}

func TestP78Last(t *testing.T) {
	held := 0
	for _, a := range drawn(rand.New(rand.NewSource(79)), 200) {
		if len(a.Data) == 0 {
			continue
		}
		for _, f := range functions(ofTwo) {
			fold, e := prim.Fold(f, a)
			scan, g := prim.Scan(f, a)
			if e != g {
				t.Fatalf("%d of %.80v: %d, %d", f, a, e, g)
			}
			if e != api.OK {
				continue
			}
			held++
			lanes, _ := array.Lanes(scan)
			for k, lane := range lanes {
				if lane[len(lane)-1] != fold.Data[k] {
					t.Fatalf("%d of %.80v: %d; not %d", f, a, lane, fold.Data[k])
				}
			}
		}
	}
	if held < 3000 {
		t.Error(held)
	}
}

// P7.9

func TestP79Outer(t *testing.T) {
	r := rand.New(rand.NewSource(80))
	for _, b := range drawn(r, 200) {
		for _, f := range functions(ofTwo) {
			a := num(drawnNumber(r))
			wanted, code := prim.Dyad(f, a, b)
			checkTwo(t, prim.Outer, f, a, b, wanted, code)
		}
	}
	for _, a := range drawn(r, 200) {
		if len(a.Sides) > 2 {
			continue
		}
		c, e := prim.Outer(api.Minus, a, filled(1, 2, 0))
		if !slices.Equal(c.Sides, slices.Concat(a.Sides, list{2, 0})) || e != api.OK {
			t.Errorf("%.80v: %.80v, %d", a, c, e)
		}
	}
}

// Rules 4 and 5: what is handed in stays as it is, what is behind its end is not read, and what is answered is the caller's.

// call is a call with its arguments but for the arrays' memory.
type call struct {
	name string
	f    api.Fn
	do   func(f api.Fn, a, b api.Array) (api.Array, api.Errno)
}

func calls() []call {
	var all []call
	first := func(call one) two {
		return func(f api.Fn, a, b api.Array) (api.Array, api.Errno) { return call(f, a) }
	}
	for _, f := range functions(isMonad) {
		all = append(all, call{"Monad", f, first(prim.Monad)})
	}
	for _, f := range functions(isDyad) {
		all = append(all, call{"Dyad", f, prim.Dyad})
	}
	for _, f := range functions(ofTwo) {
		all = append(all, call{"Fold", f, first(prim.Fold)}, call{"Scan", f, first(prim.Scan)}, call{"Outer", f, prim.Outer})
	}
	return all
}

// pairs are arguments, some of which each call takes.
func pairs() [][2]api.Array {
	return [][2]api.Array{
		{num(1), num(1)},
		{num(1), vec(1, 1, 1)},
		{vec(1, 1, 1), num(1)},
		{vec(1, 1), vec(1, 1)},
		{vec(1), vec(1)},
		{by(list{2, 2}, 1, 1, 1, 1), by(list{2, 2}, 1, 1, 1, 1)},
		{num(0), by(list{2, 2}, 1, 0, 1, 0)},
		{num(-2), by(list{2, 3}, 1, 0, 1, 0, 1, 0)},
		{vec(2, 2), vec(1, 2)},
		{vec(), vec(3, 4)},
		{vec(), vec()},
		{num(3), vec()},
	}
}

// spoil writes into a list, and into the room behind it.
func spoil(l list) {
	l = l[:cap(l)]
	for k := range l {
		l[k] = -9
	}
}

// roomy is the same array with other numbers in the room behind its lists.
func roomy(a api.Array, behind int64) api.Array {
	more := list{behind, behind, behind}
	sides, data := slices.Concat(a.Sides, more), slices.Concat(a.Data, more)
	return api.Array{Sides: sides[:len(a.Sides)], Data: data[:len(a.Data)]}
}

func TestR4Behind(t *testing.T) {
	for _, c := range calls() {
		for _, p := range pairs() {
			wanted, code := c.do(c.f, p[0], p[1])
			for _, behind := range []int64{0, 1, -7} {
				a, b := roomy(p[0], behind), roomy(p[1], behind)
				got, e := c.do(c.f, a, b)
				if !same(got, wanted) || e != code {
					t.Errorf("%s %d of %v and %v: %v, %d; not %v, %d", c.name, c.f, p[0], p[1], got, e, wanted, code)
				}
				again, other := roomy(p[0], behind), roomy(p[1], behind)
				for k, l := range []list{a.Sides, a.Data, b.Sides, b.Data} {
					kept := []list{again.Sides, again.Data, other.Sides, other.Data}[k]
					if !slices.Equal(l[:len(l)+3], kept[:len(kept)+3]) {
						t.Errorf("%s %d of %v and %v: an argument is changed", c.name, c.f, p[0], p[1])
					}
				}
			}
		}
	}
}

func TestR5OwnMemory(t *testing.T) {
	answered := map[string]bool{}
	for _, c := range calls() {
		for _, p := range pairs() {
			a, b := clone(p[0]), clone(p[1])
			got, e := c.do(c.f, a, b)
			if e != api.OK {
				continue
			}
			answered[c.name+string(rune('A'+c.f))] = true
			wanted := clone(got)
			other, _ := c.do(c.f, a, b)
			spoil(got.Sides)
			if !slices.Equal(got.Data, wanted.Data) {
				t.Errorf("%s %d of %v and %v: its lists share memory", c.name, c.f, p[0], p[1])
			}
			spoil(got.Data)
			if !same(other, wanted) || !same(a, p[0]) || !same(b, p[1]) {
				t.Errorf("%s %d of %v and %v: memory is shared", c.name, c.f, p[0], p[1])
			}
		}
	}
	if len(answered) != len(calls()) {
		t.Errorf("%d of %d calls are answered", len(answered), len(calls()))
	}
}
