package poly_test

import (
	"math"
	"math/big"
	"slices"
	"testing"

	"windrow/api"
	"windrow/poly"
)

type list = []api.Mono

const (
	factor = api.MaxFactor
	side   = api.MaxSide
)

// mono is a monomial: n times the variables, each to its exponent.
func mono(n int64, e ...uint8) api.Mono {
	m := api.Mono{N: n}
	copy(m.E[:], e)
	return m
}

var (
	x = list{mono(1, 1)}
	y = list{mono(1, 0, 1)}
)

// row is so many monomials that fall, each with the factor n: of four variables, each to 0, 1 or 2.
func row(many int, n int64) list {
	var l list
	for k := many - 1; k >= 0; k-- {
		l = append(l, mono(n, uint8(k/27%3), uint8(k/9%3), uint8(k/3%3), uint8(k%3)))
	}
	return l
}

// wrong are lists that are no polynomials, each for one reason.
var wrong = []struct {
	why string
	l   list
}{
	{"49 monomials", row(49, 1)},
	{"81 monomials", row(81, 1)},
	{"a factor 0 alone", list{mono(0)}},
	{"a factor 0 among others", list{mono(1, 2), mono(0, 1), mono(1)}},
	{"a factor 0 at the end", list{mono(1, 2), mono(0)}},
	{"a factor too great", list{mono(factor+1, 1)}},
	{"a factor too far below 0", list{mono(-factor-1, 1)}},
	{"the greatest factor", list{mono(math.MaxInt64)}},
	{"the least factor", list{mono(math.MinInt64)}},
	{"a last factor too great", list{mono(1, 1), mono(factor + 1)}},
	{"the degree 9 of one variable", list{mono(1, 9)}},
	{"the degree 9 of the last variable", list{mono(1, 0, 0, 0, 0, 0, 9)}},
	{"the degree 9 of all variables", list{mono(1, 2, 2, 2, 1, 1, 1)}},
	{"the degree 256", list{mono(1, 128, 128)}},
	{"the degree 257", list{mono(1, 255, 2)}},
	{"the degree 1530", list{mono(1, 255, 255, 255, 255, 255, 255)}},
	{"a degree 9 behind a right one", list{mono(1, 1, 0), mono(1, 0, 9)}},
	{"rising", list{mono(1, 0, 1), mono(1, 1)}},
	{"rising by the last variable", list{mono(1, 1, 0, 0, 0, 0, 1), mono(1, 1, 0, 0, 0, 0, 2)}},
	{"rising at the end", list{mono(1, 2), mono(1), mono(1, 1)}},
	{"by degree, not by the first exponent", list{mono(1, 0, 8), mono(1, 1)}},
	{"the same exponents twice", list{mono(1, 1, 1), mono(2, 1, 1)}},
	{"a number twice", list{mono(1), mono(1)}},
}

// right are polynomials; the last ones are at the edges.
var right = []list{
	nil,
	{},
	{mono(7)},
	{mono(-1)},
	x,
	y,
	{mono(1, 0, 0, 0, 0, 0, 1)},
	{mono(1, 1), mono(1)},
	{mono(1, 1), mono(-1)},
	{mono(2, 1), mono(-3, 0, 1), mono(5)},
	{mono(1, 2), mono(2, 1, 1), mono(1, 0, 2)},
	{mono(1, 1), mono(1, 0, 8)},
	{mono(1, 1, 0, 0, 0, 0, 2), mono(1, 1, 0, 0, 0, 0, 1), mono(1, 1)},
	{mono(4, 3, 0, 1), mono(-2, 0, 2), mono(9, 0, 0, 0, 3), mono(-8)},
	{mono(factor, 1), mono(-factor)},
	{mono(-factor, 0, 0, 0, 0, 0, 8)},
	{mono(1, 8), mono(1, 2, 2, 1, 1, 1, 1)},
	row(47, -3),
	row(48, 1),
}

// spread is p by its exponents, in numbers that have no end; it is no matter how p's monomials lie.
func spread(p list) map[[api.MaxDims]uint8]*big.Int {
	all := map[[api.MaxDims]uint8]*big.Int{}
	for _, m := range p {
		put(all, m.E, big.NewInt(m.N))
	}
	return all
}

func put(all map[[api.MaxDims]uint8]*big.Int, e [api.MaxDims]uint8, n *big.Int) {
	if all[e] == nil {
		all[e] = new(big.Int)
	}
	all[e].Add(all[e], n)
}

// wide is what P2.2 says of two polynomials, by another way: it counts down through all exponents instead of sorting, and asks each limit by itself.
func wide(how byte, p, q list) (list, api.Errno) {
	all := spread(p)
	switch how {
	case '+':
		for _, m := range q {
			put(all, m.E, big.NewInt(m.N))
		}
	case '-':
		for _, m := range q {
			put(all, m.E, big.NewInt(-m.N))
		}
	default:
		clear(all)
		for _, a := range p {
			for _, b := range q {
				e := a.E
				for k := range e {
					e[k] += b.E[k]
				}
				put(all, e, new(big.Int).Mul(big.NewInt(a.N), big.NewInt(b.N)))
			}
		}
	}
	var keys [][api.MaxDims]uint8
	for e, n := range all {
		if n.Sign() != 0 {
			keys = append(keys, e)
		}
	}
	code := func(e [api.MaxDims]uint8) uint64 {
		c := uint64(0)
		for _, n := range e {
			c = c<<8 | uint64(n)
		}
		return c
	}
	slices.SortFunc(keys, func(a, b [api.MaxDims]uint8) int {
		if code(a) > code(b) {
			return -1
		}
		return 1
	})
	if len(keys) > 48 {
		return nil, api.ErrPolyMany
	}
	var l list
	for _, e := range keys {
		if all[e].CmpAbs(big.NewInt(1<<24)) > 0 || e[0]+e[1]+e[2]+e[3]+e[4]+e[5] > 8 {
			return nil, api.ErrPolyMany
		}
		l = append(l, api.Mono{N: all[e].Int64(), E: e})
	}
	return l, api.OK
}

// worth is what P2.3 says of p's value, in numbers that have no end.
func worth(p list, dims []int64) (int64, api.Errno) {
	whole, sizes := new(big.Int), new(big.Int)
	for _, m := range p {
		v := big.NewInt(m.N)
		for k, e := range m.E {
			d := big.NewInt(0)
			if k < len(dims) {
				d.SetInt64(dims[k])
			}
			v.Mul(v, d.Exp(d, big.NewInt(int64(e)), nil))
		}
		whole.Add(whole, v)
		sizes.Add(sizes, v.Abs(v))
	}
	if sizes.Cmp(new(big.Int).Lsh(big.NewInt(1), 62)) > 0 {
		return 0, api.ErrPolyBig
	}
	return whole.Int64(), api.OK
}

// draw makes polynomials from a short rule, the same ones in each run of the tests.
type draw uint64

func (d *draw) below(n int) int {
	*d = *d*6364136223846793005 + 1442695040888963407
	return int(uint64(*d) >> 33 % uint64(n))
}

// polynomial has few variables and small exponents, so that some are like those of others.
func (d *draw) polynomial() list {
	var p list
	for range d.below(6) {
		m := api.Mono{N: int64(d.below(19) - 9), E: [api.MaxDims]uint8{uint8(d.below(3)), uint8(d.below(2)), 0, 0, 0, uint8(d.below(2))}}
		if sum, e := poly.Add(p, list{m}); e == api.OK {
			p = sum
		}
	}
	return p
}

func (d *draw) dims() []int64 {
	var l []int64
	for range d.below(api.MaxDims + 1) {
		l = append(l, int64(d.below(12)))
	}
	return l
}

func drawn(many int, seed draw) []list {
	var all []list
	for range many {
		all = append(all, seed.polynomial())
	}
	return all
}

func made(t *testing.T, how string, do func(p, q []api.Mono) ([]api.Mono, api.Errno), p, q list) list {
	t.Helper()
	l, e := do(p, q)
	if e != api.OK {
		t.Fatalf("%s of %v and %v: error %d", how, p, q, e)
	}
	if !poly.Right(l) {
		t.Fatalf("%s of %v and %v: no polynomial: %v", how, p, q, l)
	}
	return l
}

type both func(p, q []api.Mono) ([]api.Mono, api.Errno)

func want(t *testing.T, how string, do both, p, q, l list, e api.Errno) {
	t.Helper()
	if got, g := do(p, q); !slices.Equal(got, l) || g != e {
		t.Errorf("%s of %v and %v: %v, %d; not %v, %d", how, p, q, got, g, l, e)
	}
}

// P2.1

func TestP21Right(t *testing.T) {
	for _, l := range right {
		if !poly.Right(l) {
			t.Errorf("Right(%v): false", l)
		}
	}
	for _, w := range wrong {
		if poly.Right(w.l) {
			t.Errorf("Right of %s: true", w.why)
		}
	}
	for k := range uint8(api.MaxDims) {
		var high, low api.Mono
		high.N, low.N = 1, 1
		high.E[k] = 1
		if k < api.MaxDims-1 {
			low.E[k+1] = 7
		}
		if !poly.Right(list{high, low}) || poly.Right(list{low, high}) {
			t.Errorf("the order by variable %d", k)
		}
	}
}

func TestP21Const(t *testing.T) {
	for _, n := range []int64{1, -1, 7, -5, 1 << 16, factor - 1, factor, -factor} {
		if l, e := poly.Const(n); !slices.Equal(l, list{mono(n)}) || e != api.OK {
			t.Errorf("Const(%d): %v, %d", n, l, e)
		}
	}
	if l, e := poly.Const(0); len(l) != 0 || e != api.OK {
		t.Errorf("Const(0): %v, %d", l, e)
	}
	for _, n := range []int64{factor + 1, -factor - 1, 1 << 32, -1 << 32, math.MaxInt64, math.MinInt64} {
		if l, e := poly.Const(n); len(l) != 0 || e != api.ErrPolyMany {
			t.Errorf("Const(%d): %v, %d", n, l, e)
		}
	}
}

func TestP21Var(t *testing.T) {
	for k := range api.MaxDims {
		m := api.Mono{N: 1}
		m.E[k] = 1
		if l, e := poly.Var(k); !slices.Equal(l, list{m}) || e != api.OK {
			t.Errorf("Var(%d): %v, %d", k, l, e)
		}
	}
	for _, k := range []int{-1, api.MaxDims, api.MaxDims + 1, 256, math.MaxInt, math.MinInt} {
		if l, e := poly.Var(k); len(l) != 0 || e != api.ErrPolyDims {
			t.Errorf("Var(%d): %v, %d", k, l, e)
		}
	}
}

// P2.2

func TestP22Examples(t *testing.T) {
	one := list{mono(1)}
	want(t, "Mul", poly.Mul, list{mono(1, 1), mono(1)}, list{mono(1, 1), mono(-1)}, list{mono(1, 2), mono(-1)}, api.OK)
	want(t, "Add", poly.Add, y, x, list{mono(1, 1), mono(1, 0, 1)}, api.OK)
	want(t, "Add", poly.Add, x, x, list{mono(2, 1)}, api.OK)
	want(t, "Add", poly.Add, nil, nil, nil, api.OK)
	want(t, "Add", poly.Add, nil, x, x, api.OK)
	want(t, "Add", poly.Add, list{mono(3, 1), mono(1)}, list{mono(-3, 1), mono(1)}, list{mono(2)}, api.OK)
	want(t, "Sub", poly.Sub, x, x, nil, api.OK)
	want(t, "Sub", poly.Sub, x, y, list{mono(1, 1), mono(-1, 0, 1)}, api.OK)
	want(t, "Sub", poly.Sub, nil, x, list{mono(-1, 1)}, api.OK)
	want(t, "Sub", poly.Sub, x, nil, x, api.OK)
	want(t, "Mul", poly.Mul, x, nil, nil, api.OK)
	want(t, "Mul", poly.Mul, nil, row(48, factor), nil, api.OK)
	want(t, "Mul", poly.Mul, row(48, factor), one, row(48, factor), api.OK)
	want(t, "Mul", poly.Mul, x, y, list{mono(1, 1, 1)}, api.OK)
}

func TestP22TheEdges(t *testing.T) {
	high, low := list{mono(factor)}, list{mono(-factor)}
	one, less := list{mono(1)}, list{mono(-1)}
	want(t, "Add", poly.Add, list{mono(factor - 1)}, one, high, api.OK)
	want(t, "Add", poly.Add, high, one, nil, api.ErrPolyMany)
	want(t, "Add", poly.Add, low, less, nil, api.ErrPolyMany)
	want(t, "Add", poly.Add, high, high, nil, api.ErrPolyMany)
	want(t, "Add", poly.Add, high, low, nil, api.OK)
	want(t, "Sub", poly.Sub, high, less, nil, api.ErrPolyMany)
	want(t, "Sub", poly.Sub, low, one, nil, api.ErrPolyMany)
	want(t, "Sub", poly.Sub, low, less, list{mono(-factor + 1)}, api.OK)
	want(t, "Mul", poly.Mul, list{mono(1 << 12)}, list{mono(1 << 12)}, high, api.OK)
	want(t, "Mul", poly.Mul, list{mono(1 << 12)}, list{mono(-1 << 12)}, low, api.OK)
	want(t, "Mul", poly.Mul, list{mono(97 * 257)}, list{mono(673)}, nil, api.ErrPolyMany)
	want(t, "Mul", poly.Mul, list{mono(97 * 257)}, list{mono(-673)}, nil, api.ErrPolyMany)
	want(t, "Mul", poly.Mul, high, high, nil, api.ErrPolyMany)
	want(t, "Mul", poly.Mul, row(9, 1), high, list{mono(factor, 0, 0, 2, 2), mono(factor, 0, 0, 2, 1), mono(factor, 0, 0, 2), mono(factor, 0, 0, 1, 2), mono(factor, 0, 0, 1, 1), mono(factor, 0, 0, 1), mono(factor, 0, 0, 0, 2), mono(factor, 0, 0, 0, 1), mono(factor)}, api.OK)
}

func TestP22TheDegree(t *testing.T) {
	want(t, "Mul", poly.Mul, list{mono(1, 8)}, x, nil, api.ErrPolyMany)
	want(t, "Mul", poly.Mul, list{mono(1, 8)}, list{mono(1, 8)}, nil, api.ErrPolyMany)
	want(t, "Mul", poly.Mul, list{mono(1, 8)}, y, nil, api.ErrPolyMany)
	want(t, "Mul", poly.Mul, list{mono(1, 8)}, list{mono(2)}, list{mono(2, 8)}, api.OK)
	want(t, "Mul", poly.Mul, list{mono(1, 7)}, y, list{mono(1, 7, 1)}, api.OK)
	want(t, "Mul", poly.Mul, list{mono(1, 2, 2)}, list{mono(1, 0, 0, 1, 1, 1, 1)}, list{mono(1, 2, 2, 1, 1, 1, 1)}, api.OK)
	want(t, "Mul", poly.Mul, list{mono(1, 2, 2)}, list{mono(1, 1, 0, 1, 1, 1, 1)}, nil, api.ErrPolyMany)
}

func TestP22TheNumber(t *testing.T) {
	half, all := row(24, 1), row(48, 1)
	want(t, "Add", poly.Add, all[:24], half, all, api.OK)
	want(t, "Add", poly.Add, all, list{mono(1, 8)}, nil, api.ErrPolyMany)
	want(t, "Sub", poly.Sub, all, list{mono(1, 8)}, nil, api.ErrPolyMany)
	want(t, "Sub", poly.Sub, all, all, nil, api.OK)
	// On the way there are 49.
	want(t, "Sub", poly.Sub, all, list{mono(1, 8), mono(1)}, append(list{mono(-1, 8)}, all[:47]...), api.OK)
	// 7 times 7.
	var a, b list
	for k := range uint8(7) {
		var m, n api.Mono
		m.N, n.N = 1, 1
		m.E[0], n.E[1] = (6-k)/2, (6-k)/2
		m.E[2], n.E[3] = (6-k)%2, (6-k)%2
		a, b = append(a, m), append(b, n)
	}
	want(t, "Mul", poly.Mul, a, b, nil, api.ErrPolyMany)
	if l := made(t, "Mul", poly.Mul, a[1:], b); len(l) != 42 {
		t.Errorf("6 times 7: %d", len(l))
	}
}

// TestP22OnTheWay: what is refused is refused for what is left, not for what there is on the way.
func TestP22OnTheWay(t *testing.T) {
	// The middle one is 2^24 + 1 less 1.
	want(t, "Mul", poly.Mul, list{mono(97*257, 1), mono(1)}, list{mono(-1, 1), mono(673)}, list{mono(-97*257, 2), mono(factor, 1), mono(673)}, api.OK)
	want(t, "Mul", poly.Mul, list{mono(97*257, 1), mono(1)}, list{mono(1, 1), mono(673)}, nil, api.ErrPolyMany)
	// Of 108 products with unlike exponents 32 are left.
	p, q := list{mono(1)}, list{mono(1)}
	for k := range 5 {
		v, _ := poly.Var(k)
		more := made(t, "Add", poly.Add, v, list{mono(1)})
		q = made(t, "Mul", poly.Mul, q, more)
		if k < 3 {
			less := made(t, "Sub", poly.Sub, v, list{mono(1)})
			p = made(t, "Mul", poly.Mul, p, less)
		}
	}
	l, e := wide('*', p, q)
	if len(p) != 8 || len(q) != 32 || len(l) != 32 {
		t.Fatal("the test's own", len(p), len(q), len(l))
	}
	want(t, "Mul", poly.Mul, p, q, l, e)
}

func TestP22Wide(t *testing.T) {
	all := append(drawn(60, 1), right...)
	for _, p := range all {
		for _, q := range all {
			l, e := wide('+', p, q)
			want(t, "Add", poly.Add, p, q, l, e)
			l, e = wide('-', p, q)
			want(t, "Sub", poly.Sub, p, q, l, e)
			l, e = wide('*', p, q)
			want(t, "Mul", poly.Mul, p, q, l, e)
		}
	}
}

func TestP22NoPolynomial(t *testing.T) {
	others := []list{nil, x, {mono(factor, 8)}, row(48, factor), wrong[0].l}
	for _, w := range wrong {
		for _, o := range others {
			want(t, "Add", poly.Add, w.l, o, nil, api.ErrPolyForm)
			want(t, "Add", poly.Add, o, w.l, nil, api.ErrPolyForm)
			want(t, "Sub", poly.Sub, w.l, o, nil, api.ErrPolyForm)
			want(t, "Sub", poly.Sub, o, w.l, nil, api.ErrPolyForm)
			want(t, "Mul", poly.Mul, w.l, o, nil, api.ErrPolyForm)
			want(t, "Mul", poly.Mul, o, w.l, nil, api.ErrPolyForm)
		}
	}
}

// P2.3

type value struct {
	l    list
	dims []int64
	n    int64
	e    api.Errno
}

func checkValues(t *testing.T, all []value) {
	t.Helper()
	for _, v := range all {
		if n, e := poly.Eval(v.l, v.dims); n != v.n || e != v.e {
			t.Errorf("Eval(%v, %v): %d, %d; not %d, %d", v.l, v.dims, n, e, v.n, v.e)
		}
	}
}

func TestP23Eval(t *testing.T) {
	less := list{mono(1, 1, 1), mono(-3)}
	checkValues(t, []value{
		{nil, nil, 0, api.OK},
		{nil, []int64{1, 2, 3, 4, 5, 6}, 0, api.OK},
		{list{mono(7)}, nil, 7, api.OK},
		{list{mono(-7)}, []int64{0}, -7, api.OK},
		{less, []int64{2, 5}, 7, api.OK},
		{less, []int64{2}, -3, api.OK},
		{less, []int64{2, 5, 9}, 7, api.OK},
		{less, []int64{2, 5, 9}[:1], -3, api.OK},
		{less, nil, -3, api.OK},
		{x, []int64{0}, 0, api.OK},
		{list{mono(2, 3)}, []int64{5}, 250, api.OK},
		{list{mono(1, 1, 1, 1, 1, 1, 1)}, []int64{2, 3, 5, 7, 11, 13}, 30030, api.OK},
		{list{mono(1, 0, 0, 0, 0, 0, 8)}, []int64{9, 9, 9, 9, 9, 2}, 256, api.OK},
		{list{mono(2, 1), mono(-3, 0, 1), mono(5)}, []int64{4, 6}, -5, api.OK},
		{x, []int64{side}, side, api.OK},
	})
}

func TestP23Dims(t *testing.T) {
	for _, dims := range [][]int64{
		{0, 0, 0, 0, 0, 0, 0},
		{1, 1, 1, 1, 1, 1, 1},
		{-1},
		{5, 0, 0, 0, 0, -1},
		{side + 1},
		{0, 0, 0, 0, 0, side + 1},
		{math.MinInt64},
		{math.MaxInt64},
		{1 << 32},
		make([]int64, 1000),
	} {
		// Of what is above MaxValue too, the variables are told first; of no polynomial that.
		checkValues(t, []value{
			{x, dims, 0, api.ErrPolyDims},
			{nil, dims, 0, api.ErrPolyDims},
			{row(48, factor), dims, 0, api.ErrPolyDims},
			{list{mono(0)}, dims, 0, api.ErrPolyForm},
		})
	}
	checkValues(t, []value{{list{mono(3)}, []int64{side, side, side, side, side, side}, 3, api.OK}})
}

func TestP23NoPolynomial(t *testing.T) {
	for _, w := range wrong {
		checkValues(t, []value{
			{w.l, nil, 0, api.ErrPolyForm},
			{w.l, []int64{1, 1}, 0, api.ErrPolyForm},
			{w.l, []int64{side, side, side, side, side, side}, 0, api.ErrPolyForm},
		})
	}
}

func TestP23Big(t *testing.T) {
	top := []int64{side, side, side, side, side, side}
	square := list{mono(1, 2)}
	var squares list
	for i := range 6 {
		for k := i; k < 6; k++ {
			m := api.Mono{N: 1}
			m.E[i]++
			m.E[k]++
			squares = append(squares, m)
		}
	}
	for k := range squares {
		e := api.ErrPolyBig
		n := int64(0)
		if k == 0 {
			e, n = api.OK, 1<<62
		}
		// Of 4 sizes the sum goes round to 0, of 5 to 2^62.
		checkValues(t, []value{{squares[:k+1], top, n, e}})
	}
	checkValues(t, []value{
		{square, []int64{side}, 1 << 62, api.OK},
		{list{mono(-1, 2)}, []int64{side}, -1 << 62, api.OK},
		{list{mono(1, 2), mono(1)}, []int64{side}, 0, api.ErrPolyBig},
		{list{mono(1, 2), mono(-1)}, []int64{side}, 0, api.ErrPolyBig},
		{list{mono(-1, 2), mono(1)}, []int64{side}, 0, api.ErrPolyBig},
		{list{mono(1, 2), mono(-1, 0, 2)}, []int64{side, side}, 0, api.ErrPolyBig},
		{list{mono(1, 2), mono(-1, 1)}, []int64{side - 1}, (side - 1) * (side - 2), api.OK},
		{list{mono(1, 1, 1), mono(-1, 0, 1)}, []int64{side - 1, side}, side * (side - 2), api.OK},
		{list{mono(1, 1, 1), mono(1, 0, 1)}, []int64{side - 1, side}, 1 << 62, api.OK},
		{list{mono(1, 1, 1), mono(1, 0, 1), mono(1)}, []int64{side - 1, side}, 0, api.ErrPolyBig},
		{list{mono(2, 2)}, []int64{side}, 0, api.ErrPolyBig},
		{list{mono(-2, 2)}, []int64{side}, 0, api.ErrPolyBig},
		{list{mono(4, 2)}, []int64{side}, 0, api.ErrPolyBig},
		{list{mono(1, 3)}, []int64{side}, 0, api.ErrPolyBig},
		{list{mono(1, 8)}, []int64{1 << 8}, 0, api.ErrPolyBig},
		{list{mono(1, 8)}, []int64{215}, 4565703233437890625, api.OK},
		{list{mono(1, 8)}, []int64{216}, 0, api.ErrPolyBig},
		{list{mono(factor, 8)}, []int64{side}, 0, api.ErrPolyBig},
		{list{mono(-factor, 8)}, []int64{side}, 0, api.ErrPolyBig},
		{list{mono(factor, 1)}, []int64{side}, 1 << 55, api.OK},
		{list{mono(1<<24, 2)}, []int64{1 << 19}, 1 << 62, api.OK},
		{list{mono(1<<24-1, 2)}, []int64{1 << 19}, 1<<62 - 1<<38, api.OK},
		{list{mono(1<<24-1, 2)}, []int64{1<<19 + 1}, 0, api.ErrPolyBig},
	})
}

func TestP23NothingTimesTooMuch(t *testing.T) {
	checkValues(t, []value{
		{list{mono(5, 7, 1)}, []int64{side, 0}, 0, api.OK},
		{list{mono(5, 7, 1)}, []int64{side}, 0, api.OK},
		{list{mono(5, 1, 7)}, []int64{0, side}, 0, api.OK},
		{list{mono(factor, 7, 0, 0, 0, 0, 1), mono(-2)}, []int64{side, side, side, side, side, 0}, -2, api.OK},
		{list{mono(5, 7, 1)}, []int64{side, 1}, 0, api.ErrPolyBig},
	})
}

func TestP23Wide(t *testing.T) {
	sides := [][]int64{
		nil, {0}, {1}, {3, 5}, {7, 0, 2}, {1, 2, 3, 4, 5, 6}, {65536, 65536, 65536, 65536, 65536, 65536},
		{1 << 20, 1 << 15, 3}, {side, 1, 1, 1, 1, 1}, {1, 1, 1, 1, 1, side}, {side, side, side, side, side, side}, {0, side, 0, side, 0, side},
	}
	for _, p := range append(drawn(200, 2), right...) {
		for _, dims := range sides {
			n, e := worth(p, dims)
			checkValues(t, []value{{p, dims, n, e}})
		}
	}
}

// P2.4

func TestP24Grows(t *testing.T) {
	for _, l := range right {
		grows := true
		for _, m := range l {
			grows = grows && m.N > 0
		}
		if poly.Grows(l) != grows {
			t.Errorf("Grows(%v): %v", l, !grows)
		}
	}
	for _, w := range wrong {
		if poly.Grows(w.l) {
			t.Errorf("Grows of %s: true", w.why)
		}
	}
	if poly.Grows(list{mono(1, 1), mono(-1)}) || poly.Grows(list{mono(-1, 1), mono(1)}) || !poly.Grows(nil) || !poly.Grows(list{mono(1, 1), mono(1)}) {
		t.Error("Grows")
	}
}

func TestP24Covers(t *testing.T) {
	two := list{mono(1, 1), mono(2)}
	for _, c := range []struct {
		l      list
		n      int64
		covers bool
	}{
		{two, 2, true},
		{two, 1, true},
		{two, 3, false},
		{two, 0, true},
		{two, -9, true},
		{two, math.MaxInt64, false},
		{two, math.MinInt64, true},
		{x, 0, true},
		{x, 1, false},
		{x, -1, true},
		{list{mono(5, 0, 0, 0, 0, 0, 1)}, 1, false},
		{list{mono(5, 0, 0, 0, 0, 0, 1), mono(1)}, 1, true},
		{nil, 0, true},
		{nil, -1, true},
		{nil, 1, false},
		{list{mono(factor)}, factor, true},
		{list{mono(factor)}, factor + 1, false},
		{list{mono(-1, 1)}, 0, false},
		{list{mono(-1, 1)}, math.MinInt64, false},
		{list{mono(-1, 1), mono(5)}, 5, false},
		{list{mono(1, 1), mono(-5)}, -5, false},
	} {
		if poly.Covers(c.l, c.n) != c.covers {
			t.Errorf("Covers(%v, %d): %v", c.l, c.n, !c.covers)
		}
	}
	for _, w := range wrong {
		for _, n := range []int64{math.MinInt64, -1, 0, 1} {
			if poly.Covers(w.l, n) {
				t.Errorf("Covers of %s and %d: true", w.why, n)
			}
		}
	}
}

// P2.5

func TestP25SumsAndProducts(t *testing.T) {
	all := drawn(24, 3)
	for _, p := range all {
		want(t, "Sub", poly.Sub, p, p, nil, api.OK)
		for _, q := range all {
			sum := made(t, "Add", poly.Add, p, q)
			want(t, "Add", poly.Add, q, p, sum, api.OK)
			want(t, "Mul", poly.Mul, q, p, made(t, "Mul", poly.Mul, p, q), api.OK)
			want(t, "Sub", poly.Sub, sum, p, q, api.OK)
			want(t, "Sub", poly.Sub, sum, q, p, api.OK)
			want(t, "Add", poly.Add, made(t, "Sub", poly.Sub, p, q), q, p, api.OK)
			for _, r := range all {
				whole := made(t, "Mul", poly.Mul, r, sum)
				parts := made(t, "Add", poly.Add, made(t, "Mul", poly.Mul, r, p), made(t, "Mul", poly.Mul, r, q))
				if !slices.Equal(whole, parts) {
					t.Errorf("%v times the sum of %v and %v: %v, %v", r, p, q, whole, parts)
				}
			}
		}
	}
	for _, p := range right {
		want(t, "Sub", poly.Sub, p, p, nil, api.OK)
	}
}

// P2.6

func TestP26Values(t *testing.T) {
	all, d := drawn(60, 4), draw(5)
	for _, p := range all {
		for _, q := range all {
			dims := d.dims()
			a, e1 := poly.Eval(p, dims)
			b, e2 := poly.Eval(q, dims)
			if e1 != api.OK || e2 != api.OK {
				t.Fatalf("Eval of %v and %v by %v: errors %d, %d", p, q, dims, e1, e2)
			}
			checkValues(t, []value{
				{made(t, "Add", poly.Add, p, q), dims, a + b, api.OK},
				{made(t, "Sub", poly.Sub, p, q), dims, a - b, api.OK},
				{made(t, "Mul", poly.Mul, p, q), dims, a * b, api.OK},
			})
		}
	}
}

func TestP26ValuesOfVariables(t *testing.T) {
	dims := []int64{3, 0, side, 7, 1, 65536}
	for k, d := range dims {
		v, _ := poly.Var(k)
		checkValues(t, []value{{v, dims, d, api.OK}})
	}
	for _, n := range []int64{0, 1, -1, factor, -factor} {
		c, _ := poly.Const(n)
		checkValues(t, []value{{c, nil, n, api.OK}, {c, dims, n, api.OK}})
	}
}

// P2.7

func TestP27Grows(t *testing.T) {
	d, done := draw(7), 0
	for _, p := range drawn(600, 6) {
		if !poly.Grows(p) {
			continue
		}
		dims := append(d.dims(), 0, 0, 0, 0, 0, 0)[:api.MaxDims]
		n, e := poly.Eval(p, dims)
		if e != api.OK {
			t.Fatalf("Eval(%v, %v): error %d", p, dims, e)
		}
		for k := range dims {
			more := slices.Clone(dims)
			more[k] += int64(1 + d.below(5))
			if m, e := poly.Eval(p, more); e != api.OK || m < n {
				t.Errorf("%v: %d by %v, %d by %v", p, n, dims, m, more)
			}
			done++
		}
	}
	if done < 300 {
		t.Errorf("nearly none grows: %d", done)
	}
}

func TestP27Covers(t *testing.T) {
	d, done := draw(9), 0
	for _, p := range append(drawn(600, 8), right...) {
		for _, n := range []int64{-1, 0, 1, 2, 3, 5, 7, 9, factor} {
			for _, dims := range [][]int64{nil, {1}, {0, 1, 1, 1, 1, 1}, {side, side, side, side, side, side}, d.dims()} {
				v, e := poly.Eval(p, dims)
				if !poly.Covers(p, n) || e == api.ErrPolyBig {
					continue
				}
				if e != api.OK || v < n {
					t.Errorf("%v covers %d; by %v: %d, %d", p, n, dims, v, e)
				}
				if n > 0 {
					done++
				}
			}
		}
	}
	if done < 300 {
		t.Errorf("nearly nothing is covered: %d", done)
	}
}

// Rules 4 and 5: what is handed in stays as it is, and what is answered is the caller's.

func TestOwnMemory(t *testing.T) {
	p, q := list{mono(2, 1), mono(3)}, list{mono(5, 0, 1), mono(7), mono(9), mono(11)}
	keep, behind := slices.Clone(p), slices.Clone(q)
	short := q[:2]
	for _, do := range []both{poly.Add, poly.Sub, poly.Mul} {
		for _, pair := range [][2]list{{p, short}, {short, p}, {p, nil}, {nil, p}, {p, p}, {p, list{mono(1)}}} {
			l, e := do(pair[0], pair[1])
			again, _ := do(pair[0], pair[1])
			if e != api.OK {
				t.Fatalf("%v: error %d", pair, e)
			}
			for k := range l {
				l[k] = mono(99, 9, 9)
			}
			_ = append(l, mono(98))
			if !slices.Equal(p, keep) || !slices.Equal(q, behind) || slices.Contains(again, mono(99, 9, 9)) {
				t.Fatalf("%v: memory is shared", pair)
			}
		}
	}
	v, _ := poly.Var(2)
	v[0].N = 5
	c, _ := poly.Const(3)
	c[0].N = 5
	w, _ := poly.Var(2)
	d, _ := poly.Const(3)
	if w[0].N != 1 || d[0].N != 3 {
		t.Error("Var, Const: memory is shared")
	}
}
