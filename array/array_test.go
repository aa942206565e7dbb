package array_test

import (
	"math"
	"math/big"
	"math/rand"
	"slices"
	"testing"

	"windrow/api"
	"windrow/array"
)

type list = []int64

const (
	most     = api.MaxSize
	greatest = math.MaxInt64
	least    = math.MinInt64
)

// rightSides are sides that may be, at the edges too, and how many numbers arrays of them have.
var rightSides = []struct {
	sides list
	size  int64
}{
	{nil, 1},
	{list{}, 1},
	{list{0}, 0},
	{list{1}, 1},
	{list{7}, 7},
	{list{most}, most},
	{list{2, 3}, 6},
	{list{3, 2}, 6},
	{list{0, 5}, 0},
	{list{5, 0}, 0},
	{list{2, 0, 3}, 0},
	{list{1, 1, 1, 1}, 1},
	{list{2, 3, 4, 5}, 120},
	{list{1 << 8, 1 << 8}, most},
	{list{1 << 4, 1 << 4, 1 << 4, 1 << 4}, most},
	{list{1, most, 1, 1}, most},
	{list{most - 1}, most - 1},
	{list{255, 257}, most - 1},
	// Whose product is above the limit on the way.
	{list{0, most, most, most}, 0},
	{list{most, most, most, 0}, 0},
	{list{most, most, 0, most}, 0},
	{list{2, most, 0}, 0},
	{list{0, 0, 0, 0}, 0},
}

// wrongSides are sides that may not be, each for one reason.
var wrongSides = []list{
	{-1},
	{least},
	{most + 1},
	{greatest},
	{0, -1},
	{-1, 0},
	{-1, -1},
	{-2, -3},
	{1, 1, 1, -1},
	{0, most + 1},
	{most + 1, 0},
	{0, greatest, 0},
	{2, most},
	{most, 2},
	{1 << 9, 1 << 8},
	{257, 256},
	{1, 2, 1, most},
	{17, 16, 16, 16},
	// Whose product goes round to 0.
	{most, most, most, most},
	{1 << 32, 1 << 32},
	{1 << 33, 1 << 31},
	{1, 1, 1, 1, 1},
	{0, 0, 0, 0, 0},
	{1, 1, 1, 1, 0},
	make(list, 1<<20),
}

// counted are all indexes by sides in order, by counting up from the first one, the last number the fastest.
func counted(sides list) []list {
	if slices.Contains(sides, 0) {
		return nil
	}
	all := []list{make(list, len(sides))}
	for {
		next := slices.Clone(all[len(all)-1])
		k := len(sides) - 1
		for k >= 0 && next[k] == sides[k]-1 {
			next[k] = 0
			k--
		}
		if k < 0 {
			return all
		}
		next[k]++
		all = append(all, next)
	}
}

// filled is an array of the numbers from 101 on.
func filled(sides ...int64) api.Array {
	a := api.Array{Sides: sides}
	for n := range counted(sides) {
		a.Data = append(a.Data, int64(n)+101)
	}
	return a
}

// smallSides are all sides from 0 to 3, up to four of them.
func smallSides() []list {
	all := []list{nil}
	for at := 0; at < len(all); at++ {
		for side := range int64(4) {
			if len(all[at]) < 4 {
				all = append(all, append(slices.Clone(all[at]), side))
			}
		}
	}
	return all
}

func same(a, b api.Array) bool {
	return slices.Equal(a.Sides, b.Sides) && slices.Equal(a.Data, b.Data)
}

func checkCell(t *testing.T, a api.Array, k int64, wanted api.Array, code api.Errno) {
	t.Helper()
	if c, e := array.Cell(a, k); !same(c, wanted) || e != code {
		t.Errorf("Cell %d of %.80v: %.80v, %d; not %.80v, %d", k, a, c, e, wanted, code)
	}
}

func checkLanes(t *testing.T, a api.Array, wanted []list, code api.Errno) {
	t.Helper()
	if l, e := array.Lanes(a); !slices.EqualFunc(l, wanted, slices.Equal) || e != code {
		t.Errorf("lanes of %.80v: %.80v, %d; not %.80v, %d", a, l, e, wanted, code)
	}
}

// P6.1

func TestP61Size(t *testing.T) {
	for _, x := range rightSides {
		if n, e := array.Size(x.sides); n != x.size || e != api.OK {
			t.Errorf("%v: %d, %d; not %d", x.sides, n, e, x.size)
		}
	}
	for _, s := range wrongSides {
		if n, e := array.Size(s); n != 0 || e != api.ErrArraySides {
			t.Errorf("%.80v: %d, %d", s, n, e)
		}
	}
}

// TestP61Drawn holds sizes against products that have no end.
func TestP61Drawn(t *testing.T) {
	r := rand.New(rand.NewSource(61))
	edges := list{0, 1, 1, 2, 3, 15, 16, 17, 255, 256, 257, 1 << 15, most - 1, most, most + 1, 1 << 32, greatest, -1, least}
	rights, wrongs := 0, 0
	for range 20000 {
		s := make(list, r.Intn(6))
		wide, fits := big.NewInt(1), len(s) <= 4
		for k := range s {
			s[k] = edges[r.Intn(len(edges))]
			if r.Intn(2) == 0 {
				s[k] = r.Int63n(40)
			}
			wide.Mul(wide, big.NewInt(s[k]))
			fits = fits && s[k] >= 0 && s[k] <= most
		}
		if !fits || wide.Cmp(big.NewInt(most)) > 0 {
			wrongs++
			if n, e := array.Size(s); n != 0 || e != api.ErrArraySides {
				t.Fatalf("%v: %d, %d", s, n, e)
			}
			continue
		}
		rights++
		if n, e := array.Size(s); n != wide.Int64() || e != api.OK {
			t.Fatalf("%v: %d, %d; not %v", s, n, e, wide)
		}
	}
	if rights < 3000 || wrongs < 3000 {
		t.Error(rights, wrongs)
	}
}

func TestP61Right(t *testing.T) {
	for _, x := range rightSides {
		for _, n := range []int64{0, 1, x.size - 1, x.size, x.size + 1, 2 * x.size, most, most + 1} {
			if n < 0 {
				continue
			}
			a := api.Array{Sides: x.sides, Data: make(list, n)}
			if array.Right(a) != (n == x.size) {
				t.Errorf("%d numbers by %v", n, x.sides)
			}
		}
	}
	for _, s := range wrongSides {
		for _, n := range []int{0, 1, 2, most, most + 1, 1 << 17} {
			if array.Right(api.Array{Sides: s, Data: make(list, n)}) {
				t.Errorf("%d numbers by %.80v", n, s)
			}
		}
	}
	if array.Right(api.Array{}) {
		t.Error("an array without sides has one number")
	}
}

// P6.2

// TestP62Counted asks both calls, and their ways back (P6.4), of all places of small sides.
func TestP62Counted(t *testing.T) {
	for _, s := range smallSides() {
		all := counted(s)
		for n, i := range all {
			if p, e := array.Place(s, i); p != int64(n) || e != api.OK {
				t.Errorf("%v by %v: %d, %d; not %d", i, s, p, e, n)
			}
			if l, e := array.Index(s, int64(n)); !slices.Equal(l, i) || e != api.OK {
				t.Errorf("%d by %v: %v, %d; not %v", n, s, l, e, i)
			}
		}
		for _, p := range []int64{int64(len(all)), int64(len(all)) + 1, -1, 81, most, greatest, least} {
			if l, e := array.Index(s, p); len(l) != 0 || e != api.ErrArrayPlace {
				t.Errorf("%d by %v: %v, %d", p, s, l, e)
			}
		}
	}
}

// TestP62Ahead counts the indexes that are ahead of one.
func TestP62Ahead(t *testing.T) {
	for _, s := range smallSides() {
		all := counted(s)
		for _, i := range all {
			ahead := int64(0)
			for _, other := range all {
				if slices.Compare(other, i) < 0 {
					ahead++
				}
			}
			if p, e := array.Place(s, i); p != ahead || e != api.OK {
				t.Errorf("%v by %v: %d, %d; not %d", i, s, p, e, ahead)
			}
		}
	}
}

func TestP62None(t *testing.T) {
	for _, x := range []struct{ sides, index list }{
		{nil, list{0}},
		{nil, list{1, 2}},
		{list{3}, nil},
		{list{1}, nil},
		{list{3}, list{3}},
		{list{3}, list{-1}},
		{list{3}, list{least}},
		{list{3}, list{greatest}},
		{list{3}, list{0, 0}},
		{list{0}, list{0}},
		{list{0}, nil},
		{list{0}, list{-1}},
		{list{2, 3}, list{1, 3}},
		{list{2, 3}, list{2, 0}},
		{list{2, 3}, list{2, 2}},
		{list{2, 3}, list{-1, 3}},
		{list{2, 3}, list{0, -1}},
		{list{2, 3}, list{1, -1}},
		{list{2, 3}, list{-1, 5}},
		{list{2, 3}, list{1}},
		{list{2, 3}, list{5}},
		{list{2, 3}, list{0, 0, 0}},
		{list{2, 3}, list{1, 2, 0}},
		{list{2, 0}, list{1, 0}},
		{list{0, 2}, list{0, 1}},
		{list{most, most, most, 0}, list{most - 1, most - 1, most - 1, 0}},
		{list{1, 1, 1, 1}, make(list, 1<<20)},
	} {
		if p, e := array.Place(x.sides, x.index); p != 0 || e != api.ErrArrayPlace {
			t.Errorf("%.80v by %v: %d, %d", x.index, x.sides, p, e)
		}
	}
	for _, x := range rightSides {
		for _, p := range []int64{-1, x.size, x.size + 1, most + 1, 1 << 32, greatest, least} {
			if l, e := array.Index(x.sides, p); len(l) != 0 || e != api.ErrArrayPlace {
				t.Errorf("%d by %v: %v, %d", p, x.sides, l, e)
			}
		}
	}
}

// TestP62Sides: sides that may not be are told ahead of all else.
func TestP62Sides(t *testing.T) {
	for _, s := range wrongSides {
		for _, i := range []list{nil, {0}, {0, 0}, {-1, 0, 0}, make(list, len(s))} {
			if p, e := array.Place(s, i); p != 0 || e != api.ErrArraySides {
				t.Errorf("%.80v by %.80v: %d, %d", i, s, p, e)
			}
		}
		for _, p := range []int64{0, 1, -1, greatest} {
			if l, e := array.Index(s, p); len(l) != 0 || e != api.ErrArraySides {
				t.Errorf("%d by %.80v: %v, %d", p, s, l, e)
			}
		}
	}
}

// P6.3

func TestP63Cell(t *testing.T) {
	checkCell(t, filled(2, 3), 0, api.Array{Sides: list{3}, Data: list{101, 102, 103}}, api.OK)
	checkCell(t, filled(2, 3), 1, api.Array{Sides: list{3}, Data: list{104, 105, 106}}, api.OK)
	checkCell(t, filled(3, 2, 1), 1, api.Array{Sides: list{2, 1}, Data: list{103, 104}}, api.OK)
	checkCell(t, filled(3), 2, api.Array{Data: list{103}}, api.OK)
	checkCell(t, filled(2, 0), 1, api.Array{Sides: list{0}}, api.OK)
	checkCell(t, filled(1, 0, 5), 0, api.Array{Sides: list{0, 5}}, api.OK)
	checkCell(t, api.Array{Sides: list{most}, Data: make(list, most)}, most-1, api.Array{Data: list{0}}, api.OK)
	checkCell(t, api.Array{Sides: list{2, most, 0}}, 1, api.Array{Sides: list{most, 0}}, api.OK)
	for _, s := range smallSides() {
		a := filled(s...)
		if len(s) == 0 {
			continue
		}
		for k := range s[0] {
			c := api.Array{Sides: s[1:]}
			for n, i := range counted(s) {
				if i[0] == k {
					c.Data = append(c.Data, a.Data[n])
				}
			}
			checkCell(t, a, k, c, api.OK)
		}
	}
}

func TestP63NoCell(t *testing.T) {
	for _, s := range smallSides() {
		for _, k := range []int64{-1, 4, greatest, least} {
			checkCell(t, filled(s...), k, api.Array{}, api.ErrArrayPlace)
		}
		if len(s) > 0 {
			checkCell(t, filled(s...), s[0], api.Array{}, api.ErrArrayPlace)
		}
	}
	checkCell(t, api.Array{Data: list{7}}, 0, api.Array{}, api.ErrArrayPlace)
	checkCell(t, api.Array{Sides: list{0, 3}}, 0, api.Array{}, api.ErrArrayPlace)
	checkCell(t, api.Array{Sides: list{0, most, most}}, 0, api.Array{}, api.ErrArrayPlace)
}

func TestP63Lanes(t *testing.T) {
	checkLanes(t, api.Array{Data: list{7}}, []list{{7}}, api.OK)
	checkLanes(t, filled(1), []list{{101}}, api.OK)
	checkLanes(t, filled(3), []list{{101, 102, 103}}, api.OK)
	checkLanes(t, filled(2, 3), []list{{101, 102, 103}, {104, 105, 106}}, api.OK)
	checkLanes(t, filled(3, 1), []list{{101}, {102}, {103}}, api.OK)
	checkLanes(t, filled(2, 1, 2), []list{{101, 102}, {103, 104}}, api.OK)
	checkLanes(t, filled(0), nil, api.OK)
	checkLanes(t, filled(3, 0), nil, api.OK)
	checkLanes(t, filled(0, 3), nil, api.OK)
	checkLanes(t, filled(2, 0, 3), nil, api.OK)
	checkLanes(t, api.Array{Sides: list{most, 0}}, nil, api.OK)
	checkLanes(t, api.Array{Sides: list{0, most, most, most}}, nil, api.OK)
	for _, s := range smallSides() {
		a := filled(s...)
		var lanes []list
		for n, i := range counted(s) {
			if len(s) == 0 || i[len(s)-1] == 0 {
				lanes = append(lanes, nil)
			}
			lanes[len(lanes)-1] = append(lanes[len(lanes)-1], a.Data[n])
		}
		checkLanes(t, a, lanes, api.OK)
	}
	l, e := array.Lanes(api.Array{Sides: list{most, 1}, Data: make(list, most)})
	if len(l) != most || e != api.OK {
		t.Error(len(l), e)
	}
}

// TestP63Form: what is no array is told ahead of all else.
func TestP63Form(t *testing.T) {
	wrong := []api.Array{
		{},
		{Data: list{1, 2}},
		{Sides: list{0}, Data: list{1}},
		{Sides: list{1}},
		{Sides: list{2, 3}, Data: make(list, 5)},
		{Sides: list{2, 3}, Data: make(list, 7)},
		{Sides: list{2, 3}},
		{Data: make(list, 1<<20)},
	}
	for _, s := range wrongSides {
		wrong = append(wrong, api.Array{Sides: s}, api.Array{Sides: s, Data: list{1}})
	}
	for _, a := range wrong {
		for _, k := range []int64{0, 1, -1, greatest} {
			checkCell(t, a, k, api.Array{}, api.ErrArrayForm)
		}
		checkLanes(t, a, nil, api.ErrArrayForm)
	}
}

// P6.4

// TestP64Drawn leads places and indexes back by great sides.
func TestP64Drawn(t *testing.T) {
	r := rand.New(rand.NewSource(64))
	asked := 0
	for range 4000 {
		s := make(list, r.Intn(5))
		for k := range s {
			s[k] = 1 + r.Int63n(1<<r.Intn(17))
		}
		size, e := array.Size(s)
		if e != api.OK {
			continue
		}
		var last list
		for _, p := range []int64{0, size / 3, size / 2, size - 1} {
			i, e := array.Index(s, p)
			if back, f := array.Place(s, i); back != p || e != api.OK || f != api.OK {
				t.Fatalf("%d by %v: %v, %d, %d, %d", p, s, i, e, back, f)
			}
			if slices.Compare(last, i) > 0 {
				t.Fatalf("by %v: %v behind %v", s, i, last)
			}
			last = i
		}
		a, b := make(list, len(s)), make(list, len(s))
		for k, side := range s {
			a[k], b[k] = r.Int63n(side), r.Int63n(side)
		}
		pa, _ := array.Place(s, a)
		pb, _ := array.Place(s, b)
		back, e := array.Index(s, pa)
		if !slices.Equal(back, a) || e != api.OK || slices.Compare(a, b) != slices.Compare(list{pa}, list{pb}) {
			t.Fatalf("%v, %v by %v: %d, %d, %v", a, b, s, pa, pb, back)
		}
		asked++
	}
	if asked < 1000 {
		t.Error(asked)
	}
}

// P6.5

func TestP65Parts(t *testing.T) {
	for _, s := range append(smallSides(), list{most}, list{1 << 8, 1 << 8}, list{9, 5, 8, 7}) {
		a := filled(s...)
		lanes, e := array.Lanes(a)
		if !slices.Equal(slices.Concat(lanes...), a.Data) || e != api.OK {
			t.Errorf("%v: %d", s, e)
		}
		if len(s) == 0 {
			continue
		}
		var numbers list
		for k := range s[0] {
			c, e := array.Cell(a, k)
			if !array.Right(c) || e != api.OK {
				t.Errorf("%v: %d", s, e)
			}
			numbers = append(numbers, c.Data...)
		}
		if !slices.Equal(numbers, a.Data) {
			t.Errorf("the cells by %v", s)
		}
	}
}

// Rules 4 and 5: what is handed in stays as it is, what is behind its end is not read, and what is answered is the caller's.

// spoil writes into a list, and into the room behind it.
func spoil(l list) {
	l = l[:cap(l)]
	for k := range l {
		l[k] = -9
	}
}

func TestR4Behind(t *testing.T) {
	sides, index, data := list{2, 3, -1, 9}, list{1, 2, 8}, list{1, 2, 3, 4, 5, 6, 7, 8}
	a := api.Array{Sides: sides[:2], Data: data[:6]}
	for range 3 {
		if n, e := array.Size(sides[:2]); n != 6 || e != api.OK {
			t.Error(n, e)
		}
		if n, e := array.Place(sides[:2], index[:2]); n != 5 || e != api.OK {
			t.Error(n, e)
		}
		i, e := array.Index(sides[:2], 4)
		if !slices.Equal(i, list{1, 1}) || e != api.OK || !array.Right(a) {
			t.Error(i, e)
		}
		checkCell(t, a, 1, api.Array{Sides: list{3}, Data: list{4, 5, 6}}, api.OK)
		checkCell(t, a, 2, api.Array{}, api.ErrArrayPlace)
		checkLanes(t, a, []list{{1, 2, 3}, {4, 5, 6}}, api.OK)
		none := api.Array{Sides: sides[:0], Data: data[:1]}
		checkCell(t, none, 0, api.Array{}, api.ErrArrayPlace)
		checkLanes(t, none, []list{{1}}, api.OK)
	}
	if !slices.Equal(sides, list{2, 3, -1, 9}) || !slices.Equal(index, list{1, 2, 8}) || !slices.Equal(data, list{1, 2, 3, 4, 5, 6, 7, 8}) {
		t.Error(sides, index, data)
	}
}

func TestR5OwnMemory(t *testing.T) {
	for _, s := range smallSides() {
		a := filled(s...)
		keep := api.Array{Sides: slices.Clone(s), Data: slices.Clone(a.Data)}
		if len(a.Data) == 0 {
			continue
		}
		i, _ := array.Index(a.Sides, 0)
		again, _ := array.Index(a.Sides, 0)
		spoil(i)
		if !slices.Equal(again, make(list, len(s))) || !same(a, keep) {
			t.Errorf("Index by %v: memory is shared", keep.Sides)
		}
		if len(s) > 0 {
			checkOwnCell(t, a, keep)
		}
		checkOwnLanes(t, a, keep)
	}
}

func checkOwnCell(t *testing.T, a, keep api.Array) {
	t.Helper()
	one, _ := array.Cell(a, 0)
	wanted := api.Array{Sides: slices.Clone(one.Sides), Data: slices.Clone(one.Data)}
	other, _ := array.Cell(a, 0)
	spoil(one.Sides)
	if !slices.Equal(one.Data, wanted.Data) {
		t.Errorf("Cell by %v: its lists share memory", keep.Sides)
	}
	spoil(one.Data)
	if !same(other, wanted) || !same(a, keep) {
		t.Errorf("Cell by %v: memory is shared", keep.Sides)
	}
}

func checkOwnLanes(t *testing.T, a, keep api.Array) {
	t.Helper()
	lanes, _ := array.Lanes(a)
	again, _ := array.Lanes(a)
	rest := slices.Clone(a.Data)
	for k, lane := range lanes {
		rest = rest[len(lane):]
		spoil(lane)
		if !slices.Equal(slices.Concat(lanes[k+1:]...), rest) {
			t.Errorf("lanes by %v share memory", keep.Sides)
		}
	}
	if !slices.Equal(slices.Concat(again...), keep.Data) || !same(a, keep) {
		t.Errorf("lanes by %v: memory is shared", keep.Sides)
	}
}
