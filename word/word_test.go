package word_test

import (
	"math"
	"math/big"
	"testing"

	"windrow/api"
	"windrow/word"
)

const (
	greatest int64 = math.MaxInt64
	least    int64 = math.MinInt64
)

// twos and ones are the functions of two numbers and of one, written out: the tests shall not ask the program for them.
var (
	twos = []api.Fn{api.Plus, api.Minus, api.Times, api.Divide, api.Residue, api.Least, api.Most, api.Equal, api.Unlike, api.Less, api.AtMost, api.AtLeast, api.More, api.And, api.Or, api.Power}
	ones = []api.Fn{api.Plus, api.Minus, api.Times, api.Divide, api.Residue, api.Least, api.Most, api.Not}
)

// numbers are small ones of both signs, and those about which numbers go round.
var numbers = []int64{
	least, least + 1, least + 2, -1 << 62, -1<<32 - 1, -1 << 32, -1 << 31, -1000003, -64, -10, -8, -7, -4, -3, -2, -1,
	0, 1, 2, 3, 4, 7, 8, 10, 41, 63, 64, 65, 1000003, 1 << 31, 1<<32 - 1, 1 << 32, 3037000500, 1<<62 - 1, 1 << 62, greatest - 1, greatest,
}

type two struct {
	f    api.Fn
	a, b int64
	n    int64
	e    api.Errno
}

type one struct {
	f api.Fn
	a int64
	n int64
	e api.Errno
}

func has(l []api.Fn, f api.Fn) bool {
	for _, g := range l {
		if g == f {
			return true
		}
	}
	return false
}

func dyad(t *testing.T, f api.Fn, a, b int64) int64 {
	t.Helper()
	n, e := word.Dyad(f, a, b)
	if e != api.OK {
		t.Fatalf("Dyad(%d, %d, %d): error %d", f, a, b, e)
	}
	return n
}

func checkTwo(t *testing.T, l []two) {
	t.Helper()
	for _, x := range l {
		if n, e := word.Dyad(x.f, x.a, x.b); n != x.n || e != x.e {
			t.Errorf("Dyad(%d, %d, %d): %d, %d; not %d, %d", x.f, x.a, x.b, n, e, x.n, x.e)
		}
	}
}

func checkOne(t *testing.T, l []one) {
	t.Helper()
	for _, x := range l {
		if n, e := word.Monad(x.f, x.a); n != x.n || e != x.e {
			t.Errorf("Monad(%d, %d): %d, %d; not %d, %d", x.f, x.a, n, e, x.n, x.e)
		}
	}
}

// each does something for each number of type api.Fn, most of which are no function.
func each(do func(api.Fn)) {
	for k := 0; k < 256; k++ {
		do(api.Fn(k))
	}
}

// P1.1

func TestP11Takes(t *testing.T) {
	if len(twos) != 16 || len(ones) != 8 {
		t.Fatal("the tests' lists")
	}
	each(func(f api.Fn) {
		if word.Takes(f, true) != has(twos, f) {
			t.Errorf("Takes(%d, true): %v", f, !has(twos, f))
		}
		if word.Takes(f, false) != has(ones, f) {
			t.Errorf("Takes(%d, false): %v", f, !has(ones, f))
		}
	})
}

// P1.2

func TestP12RoundTheEnds(t *testing.T) {
	checkTwo(t, []two{
		{api.Plus, 2, 3, 5, api.OK},
		{api.Plus, -2, -3, -5, api.OK},
		{api.Plus, greatest, 1, least, api.OK},
		{api.Plus, least, -1, greatest, api.OK},
		{api.Plus, least, least, 0, api.OK},
		{api.Minus, 2, 3, -1, api.OK},
		{api.Minus, 3, 2, 1, api.OK},
		{api.Minus, least, 1, greatest, api.OK},
		{api.Minus, 0, least, least, api.OK},
		{api.Minus, greatest, -1, least, api.OK},
		{api.Times, -3, 4, -12, api.OK},
		{api.Times, -3, -4, 12, api.OK},
		{api.Times, 1 << 62, 4, 0, api.OK},
		{api.Times, 1 << 62, 2, least, api.OK},
		{api.Times, least, -1, least, api.OK},
		{api.Times, greatest, greatest, 1, api.OK},
	})
}

func TestP12DivideAndResidue(t *testing.T) {
	checkTwo(t, []two{
		{api.Divide, 7, 2, 3, api.OK},
		{api.Divide, -7, 2, -4, api.OK},
		{api.Divide, 7, -2, -4, api.OK},
		{api.Divide, -7, -2, 3, api.OK},
		{api.Divide, 6, -2, -3, api.OK},
		{api.Divide, -6, 2, -3, api.OK},
		{api.Divide, 0, -5, 0, api.OK},
		{api.Divide, 1, greatest, 0, api.OK},
		{api.Divide, -1, greatest, -1, api.OK},
		{api.Divide, 1, least, -1, api.OK},
		{api.Divide, -1, least, 0, api.OK},
		{api.Divide, 5, -1, -5, api.OK},
		{api.Divide, greatest, -1, -greatest, api.OK},
		{api.Divide, least, -1, least, api.OK},
		{api.Divide, least, 1, least, api.OK},
		{api.Divide, least, greatest, -2, api.OK},
		{api.Divide, greatest, least, -1, api.OK},
		{api.Divide, 1, 0, 0, api.ErrDomain},
		{api.Divide, 0, 0, 0, api.ErrDomain},
		{api.Divide, least, 0, 0, api.ErrDomain},
		{api.Residue, 3, 7, 1, api.OK},
		{api.Residue, 3, -7, 2, api.OK},
		{api.Residue, -3, 7, -2, api.OK},
		{api.Residue, -3, -7, -1, api.OK},
		{api.Residue, 3, 6, 0, api.OK},
		{api.Residue, -3, 6, 0, api.OK},
		{api.Residue, 0, 7, 7, api.OK},
		{api.Residue, 0, -7, -7, api.OK},
		{api.Residue, 0, 0, 0, api.OK},
		{api.Residue, 5, 0, 0, api.OK},
		{api.Residue, 1, least, 0, api.OK},
		{api.Residue, -1, least, 0, api.OK},
		{api.Residue, least, 1, least + 1, api.OK},
		{api.Residue, least, -1, -1, api.OK},
		{api.Residue, greatest, least, greatest - 1, api.OK},
		{api.Residue, least, greatest, -1, api.OK},
	})
}

func TestP12Compared(t *testing.T) {
	fs := []api.Fn{api.Equal, api.Unlike, api.Less, api.AtMost, api.AtLeast, api.More}
	for _, x := range []struct {
		a, b int64
		want [6]int64
	}{
		{2, 2, [6]int64{1, 0, 0, 1, 1, 0}},
		{1, 2, [6]int64{0, 1, 1, 1, 0, 0}},
		{2, 1, [6]int64{0, 1, 0, 0, 1, 1}},
		{-2, 1, [6]int64{0, 1, 1, 1, 0, 0}},
		{-1, -2, [6]int64{0, 1, 0, 0, 1, 1}},
		{least, greatest, [6]int64{0, 1, 1, 1, 0, 0}},
		{greatest, least, [6]int64{0, 1, 0, 0, 1, 1}},
		{least, least, [6]int64{1, 0, 0, 1, 1, 0}},
		{1, 1<<32 + 1, [6]int64{0, 1, 1, 1, 0, 0}},
	} {
		for k, f := range fs {
			checkTwo(t, []two{{f, x.a, x.b, x.want[k], api.OK}})
		}
	}
	checkTwo(t, []two{
		{api.Least, -3, 2, -3, api.OK},
		{api.Least, 2, -3, -3, api.OK},
		{api.Least, least, greatest, least, api.OK},
		{api.Most, -3, 2, 2, api.OK},
		{api.Most, 2, -3, 2, api.OK},
		{api.Most, least, greatest, greatest, api.OK},
	})
}

func TestP12AndOr(t *testing.T) {
	checkTwo(t, []two{
		{api.And, 0, 0, 0, api.OK},
		{api.And, 0, 1, 0, api.OK},
		{api.And, 1, 0, 0, api.OK},
		{api.And, 1, 1, 1, api.OK},
		{api.Or, 0, 0, 0, api.OK},
		{api.Or, 0, 1, 1, api.OK},
		{api.Or, 1, 0, 1, api.OK},
		{api.Or, 1, 1, 1, api.OK},
	})
	for _, f := range []api.Fn{api.And, api.Or} {
		for _, n := range numbers {
			if n == 0 || n == 1 {
				continue
			}
			checkTwo(t, []two{
				{f, 0, n, 0, api.ErrDomain},
				{f, 1, n, 0, api.ErrDomain},
				{f, n, 0, 0, api.ErrDomain},
				{f, n, 1, 0, api.ErrDomain},
				{f, n, n, 0, api.ErrDomain},
			})
		}
	}
}

func TestP12Power(t *testing.T) {
	checkTwo(t, []two{
		{api.Power, 2, 10, 1024, api.OK},
		{api.Power, -2, 3, -8, api.OK},
		{api.Power, -2, 4, 16, api.OK},
		{api.Power, 7, 1, 7, api.OK},
		{api.Power, least, 1, least, api.OK},
		{api.Power, 7, 0, 1, api.OK},
		{api.Power, 0, 0, 1, api.OK},
		{api.Power, least, 0, 1, api.OK},
		{api.Power, 0, 1, 0, api.OK},
		{api.Power, 0, greatest, 0, api.OK},
		{api.Power, 1, greatest, 1, api.OK},
		{api.Power, -1, greatest, -1, api.OK},
		{api.Power, -1, greatest - 1, 1, api.OK},
		{api.Power, 2, 62, 1 << 62, api.OK},
		{api.Power, 2, 63, least, api.OK},
		{api.Power, 2, 64, 0, api.OK},
		{api.Power, 3, 41, -420491770248316829, api.OK},
		{api.Power, 3, 1 << 62, 1, api.OK},
		{api.Power, 2, -1, 0, api.ErrDomain},
		{api.Power, 1, -1, 0, api.ErrDomain},
		{api.Power, 0, -1, 0, api.ErrDomain},
		{api.Power, 2, least, 0, api.ErrDomain},
	})
}

func TestP12NoFunction(t *testing.T) {
	// Numbers that some function refuses are among them: that there is no function is told first.
	pairs := [][2]int64{{1, 1}, {1, 0}, {2, -1}, {5, 7}, {least, greatest}}
	each(func(f api.Fn) {
		if has(twos, f) {
			return
		}
		for _, p := range pairs {
			checkTwo(t, []two{{f, p[0], p[1], 0, api.ErrNoFn}})
		}
	})
}

// wide is what P1.2 says of two numbers, worked out in numbers that have no end.
func wide(f api.Fn, a, b int64) (int64, api.Errno) {
	x, y := big.NewInt(a), big.NewInt(b)
	switch f {
	case api.Plus:
		return round(x.Add(x, y)), api.OK
	case api.Minus:
		return round(x.Sub(x, y)), api.OK
	case api.Times:
		return round(x.Mul(x, y)), api.OK
	case api.Divide:
		if b == 0 {
			return 0, api.ErrDomain
		}
		return round(below(x, y)), api.OK
	case api.Residue:
		if a == 0 {
			return b, api.OK
		}
		return round(y.Sub(y, new(big.Int).Mul(x, below(y, x)))), api.OK
	case api.Power:
		if b < 0 {
			return 0, api.ErrDomain
		}
		m := new(big.Int).Lsh(big.NewInt(1), 64)
		return round(x.Exp(x.Mod(x, m), y, m)), api.OK
	}
	return compared(f, x.Cmp(y), x, y)
}

func compared(f api.Fn, c int, x, y *big.Int) (int64, api.Errno) {
	switch f {
	case api.Least:
		if c < 0 {
			return x.Int64(), api.OK
		}
		return y.Int64(), api.OK
	case api.Most:
		if c > 0 {
			return x.Int64(), api.OK
		}
		return y.Int64(), api.OK
	case api.And, api.Or:
		n := x.Int64() + y.Int64()
		if !bit(x) || !bit(y) {
			return 0, api.ErrDomain
		}
		if f == api.And {
			n /= 2
		}
		return min(n, 1), api.OK
	}
	is := map[api.Fn][3]int64{
		api.Equal:   {0, 1, 0},
		api.Unlike:  {1, 0, 1},
		api.Less:    {1, 0, 0},
		api.AtMost:  {1, 1, 0},
		api.AtLeast: {0, 1, 1},
		api.More:    {0, 0, 1},
	}
	return is[f][c+1], api.OK
}

func bit(x *big.Int) bool {
	return x.Sign() == 0 || x.Cmp(big.NewInt(1)) == 0
}

func round(x *big.Int) int64 {
	low := new(big.Int).And(x, new(big.Int).SetUint64(math.MaxUint64))
	return int64(low.Uint64())
}

// below is x divided by y, down to the next whole number: the remainder that big's own division leaves is never below 0.
func below(x, y *big.Int) *big.Int {
	q, m := new(big.Int).DivMod(x, y, new(big.Int))
	if y.Sign() < 0 && m.Sign() != 0 {
		q.Sub(q, big.NewInt(1))
	}
	return q
}

func TestP12Wide(t *testing.T) {
	for _, f := range twos {
		for _, a := range numbers {
			for _, b := range numbers {
				n, e := wide(f, a, b)
				checkTwo(t, []two{{f, a, b, n, e}})
			}
		}
	}
}

// P1.3

func TestP13Monad(t *testing.T) {
	checkOne(t, []one{
		{api.Plus, -5, -5, api.OK},
		{api.Plus, least, least, api.OK},
		{api.Minus, 5, -5, api.OK},
		{api.Minus, -5, 5, api.OK},
		{api.Minus, 0, 0, api.OK},
		{api.Minus, greatest, least + 1, api.OK},
		{api.Minus, least, least, api.OK},
		{api.Times, -5, -1, api.OK},
		{api.Times, 0, 0, api.OK},
		{api.Times, 5, 1, api.OK},
		{api.Times, least, -1, api.OK},
		{api.Times, greatest, 1, api.OK},
		{api.Divide, 1, 1, api.OK},
		{api.Divide, 2, 0, api.OK},
		{api.Divide, greatest, 0, api.OK},
		{api.Divide, -1, -1, api.OK},
		{api.Divide, -3, -1, api.OK},
		{api.Divide, least, -1, api.OK},
		{api.Divide, 0, 0, api.ErrDomain},
		{api.Residue, 5, 5, api.OK},
		{api.Residue, -5, 5, api.OK},
		{api.Residue, 0, 0, api.OK},
		{api.Residue, least + 1, greatest, api.OK},
		{api.Residue, least, least, api.OK},
		{api.Not, 0, 1, api.OK},
		{api.Not, 1, 0, api.OK},
	})
	for _, n := range numbers {
		checkOne(t, []one{{api.Plus, n, n, api.OK}, {api.Least, n, n, api.OK}, {api.Most, n, n, api.OK}})
		if n != 0 && n != 1 {
			checkOne(t, []one{{api.Not, n, 0, api.ErrDomain}})
		}
		q, e := word.Dyad(api.Divide, 1, n)
		checkOne(t, []one{{api.Divide, n, q, e}})
	}
}

func TestP13NoFunction(t *testing.T) {
	each(func(f api.Fn) {
		if has(ones, f) {
			return
		}
		for _, n := range []int64{0, 1, 2, -1, least} {
			checkOne(t, []one{{f, n, 0, api.ErrNoFn}})
		}
	})
}

// P1.4

func TestP14Unit(t *testing.T) {
	units := map[api.Fn]int64{
		api.Plus: 0, api.Minus: 0, api.Residue: 0, api.Unlike: 0, api.Less: 0, api.More: 0, api.Or: 0,
		api.Times: 1, api.Divide: 1, api.Equal: 1, api.AtMost: 1, api.AtLeast: 1, api.And: 1, api.Power: 1,
		api.Least: greatest, api.Most: least,
	}
	each(func(f api.Fn) {
		want, there := units[f]
		if n, is := word.Unit(f); n != want || is != there {
			t.Errorf("Unit(%d): %d, %v", f, n, is)
		}
	})
}

func TestP14Scans(t *testing.T) {
	scans := []api.Fn{api.Plus, api.Times, api.Least, api.Most, api.And, api.Or}
	each(func(f api.Fn) {
		if word.Scans(f) != has(scans, f) {
			t.Errorf("Scans(%d): %v", f, !has(scans, f))
		}
	})
}

func TestP14Total(t *testing.T) {
	two := []api.Fn{api.Plus, api.Minus, api.Times, api.Residue, api.Least, api.Most, api.Equal, api.Unlike, api.Less, api.AtMost, api.AtLeast, api.More}
	one := []api.Fn{api.Plus, api.Minus, api.Times, api.Residue, api.Least, api.Most}
	each(func(f api.Fn) {
		if word.Total(f, true) != has(two, f) {
			t.Errorf("Total(%d, true): %v", f, !has(two, f))
		}
		if word.Total(f, false) != has(one, f) {
			t.Errorf("Total(%d, false): %v", f, !has(one, f))
		}
	})
}

func TestP14TotalRefusesNone(t *testing.T) {
	for _, f := range twos {
		refused := false
		for _, a := range numbers {
			for _, b := range numbers {
				_, e := word.Dyad(f, a, b)
				refused = refused || e == api.ErrDomain
			}
		}
		if word.Total(f, true) == refused {
			t.Errorf("Total(%d, true), refused: %v", f, refused)
		}
	}
	for _, f := range ones {
		refused := false
		for _, a := range numbers {
			_, e := word.Monad(f, a)
			refused = refused || e == api.ErrDomain
		}
		if word.Total(f, false) == refused {
			t.Errorf("Total(%d, false), refused: %v", f, refused)
		}
	}
}

// P1.5

func TestP15SumsAndProducts(t *testing.T) {
	for _, a := range numbers {
		for _, b := range numbers {
			for _, f := range []api.Fn{api.Plus, api.Times} {
				if dyad(t, f, a, b) != dyad(t, f, b, a) {
					t.Errorf("%d of %d and %d: the sides", f, a, b)
				}
			}
			for _, c := range numbers {
				for _, f := range []api.Fn{api.Plus, api.Times} {
					if dyad(t, f, dyad(t, f, a, b), c) != dyad(t, f, a, dyad(t, f, b, c)) {
						t.Errorf("%d of %d, %d and %d: the order", f, a, b, c)
					}
				}
				whole := dyad(t, api.Times, a, dyad(t, api.Plus, b, c))
				parts := dyad(t, api.Plus, dyad(t, api.Times, a, b), dyad(t, api.Times, a, c))
				if whole != parts {
					t.Errorf("%d times the sum of %d and %d: %d, %d", a, b, c, whole, parts)
				}
			}
		}
	}
}

func TestP15DivideAndResidue(t *testing.T) {
	for _, a := range numbers {
		for _, b := range numbers {
			if b == 0 {
				continue
			}
			r := dyad(t, api.Residue, b, a)
			if dyad(t, api.Plus, dyad(t, api.Times, dyad(t, api.Divide, a, b), b), r) != a {
				t.Errorf("%d divided by %d, residue %d", a, b, r)
			}
			if b > 0 && (r < 0 || r >= b) || b < 0 && (r > 0 || r <= b) {
				t.Errorf("residue of %d by %d: %d", a, b, r)
			}
		}
	}
}

// P1.6

func TestP16Order(t *testing.T) {
	for _, a := range numbers {
		for _, b := range numbers {
			less, equal, more := dyad(t, api.Less, a, b), dyad(t, api.Equal, a, b), dyad(t, api.More, a, b)
			if less+equal+more != 1 || less*equal != 0 || less*more != 0 || equal*more != 0 {
				t.Errorf("%d and %d: %d %d %d", a, b, less, equal, more)
			}
			atMost, unlike, atLeast := dyad(t, api.AtMost, a, b), dyad(t, api.Unlike, a, b), dyad(t, api.AtLeast, a, b)
			if atMost != 1-more || unlike != 1-equal || atLeast != 1-less {
				t.Errorf("%d and %d: %d %d %d", a, b, atMost, unlike, atLeast)
			}
			lesser, greater := dyad(t, api.Least, a, b), dyad(t, api.Most, a, b)
			if dyad(t, api.Plus, lesser, greater) != dyad(t, api.Plus, a, b) || lesser > greater {
				t.Errorf("%d and %d: the lesser %d, the greater %d", a, b, lesser, greater)
			}
		}
	}
}

func TestP16PowerOfOneMore(t *testing.T) {
	for _, a := range numbers {
		for _, b := range numbers {
			if b < 0 || b == greatest {
				continue
			}
			if dyad(t, api.Power, a, b+1) != dyad(t, api.Times, dyad(t, api.Power, a, b), a) {
				t.Errorf("%d to the power %d, and one more", a, b)
			}
		}
	}
}

// P1.7

// two steps of f, where none is refused.
func steps(f api.Fn, a, b, c int64) (left, right int64, refused bool) {
	ab, e1 := word.Dyad(f, a, b)
	bc, e2 := word.Dyad(f, b, c)
	if e1 != api.OK || e2 != api.OK {
		return 0, 0, true
	}
	left, e1 = word.Dyad(f, ab, c)
	right, e2 = word.Dyad(f, a, bc)
	return left, right, e1 != api.OK || e2 != api.OK
}

func TestP17Scans(t *testing.T) {
	for _, f := range twos {
		if !word.Scans(f) {
			continue
		}
		u, is := word.Unit(f)
		if !is {
			t.Errorf("%d has no unit", f)
		}
		done := 0
		for _, a := range numbers {
			if n, e := word.Dyad(f, u, a); e == api.OK && n != a {
				t.Errorf("%d of its unit and %d: %d", f, a, n)
			}
			for _, b := range numbers {
				for _, c := range numbers {
					left, right, refused := steps(f, a, b, c)
					if !refused {
						done++
					}
					if !refused && left != right {
						t.Errorf("%d of %d, %d and %d: %d, %d", f, a, b, c, left, right)
					}
				}
			}
		}
		if done < 8 {
			t.Errorf("%d: nearly all is refused", f)
		}
	}
}
