package show_test

import (
	"fmt"
	"math"
	"slices"
	"strings"
	"testing"

	"windrow/api"
	"windrow/parse"
	"windrow/show"
)

var none api.Fault

const (
	greatest = math.MaxInt64
	least    = math.MinInt64
	long16   = "abcdefghijklmnop"
)

func nums(l ...int64) api.Item { return api.Item{How: api.INumbers, Nums: l} }

func name(s string) api.Item { return api.Item{How: api.IName, Name: s} }

func one(f api.Fn) api.Item { return api.Item{How: api.IMonad, Fn: f} }

func two(f api.Fn) api.Item { return api.Item{How: api.IDyad, Fn: f} }

func fold(f api.Fn) api.Item { return api.Item{How: api.IFold, Fn: f} }

func scan(f api.Fn) api.Item { return api.Item{How: api.IScan, Fn: f} }

func outer(f api.Fn) api.Item { return api.Item{How: api.IOuter, Fn: f} }

func input(s string, sides ...api.Side) api.Input { return api.Input{Name: s, Sides: sides} }

func dim(s string) api.Side { return api.Side{Name: s} }

func side(n int64) api.Side { return api.Side{N: n} }

func line(s string, items ...api.Item) api.Line { return api.Line{Name: s, Items: items} }

// out is a program of one line.
func out(items ...api.Item) api.Program { return api.Program{Lines: []api.Line{line("", items...)}} }

// taking is a program with one input.
func taking(in api.Input) api.Program {
	return api.Program{Inputs: []api.Input{in}, Lines: out(nums(1)).Lines}
}

// ahead is a program whose last line has a line ahead of it.
func ahead(l api.Line) api.Program {
	return api.Program{Lines: []api.Line{l, line("", nums(1))}}
}

// same holds programs against each other, places apart, a nil list being an empty one.
func same(a, b api.Program) bool {
	items := func(x, y api.Item) bool {
		return x.How == y.How && x.Fn == y.Fn && x.Name == y.Name && slices.Equal(x.Nums, y.Nums)
	}
	lines := func(x, y api.Line) bool {
		return x.Name == y.Name && slices.EqualFunc(x.Items, y.Items, items)
	}
	inputs := func(x, y api.Input) bool {
		return x.Name == y.Name && slices.Equal(x.Sides, y.Sides)
	}
	return slices.EqualFunc(a.Inputs, b.Inputs, inputs) && slices.EqualFunc(a.Lines, b.Lines, lines)
}

// check asks both calls of a program that may be.
func check(t *testing.T, p api.Program, wanted string) {
	t.Helper()
	if !show.Right(p) {
		t.Errorf("%.200v may be", p)
	}
	if s, e := show.Show(p); s != wanted || e != api.OK {
		t.Errorf("%.200v: %.200q, %v; wanted %.200q", p, s, e, wanted)
	}
}

// checkWrong asks both calls of a program that may not be.
func checkWrong(t *testing.T, p api.Program) {
	t.Helper()
	if show.Right(p) {
		t.Errorf("%.200v may not be", p)
	}
	if s, e := show.Show(p); s != "" || e != api.ErrShowForm {
		t.Errorf("%.200v: %.200q, %v", p, s, e)
	}
}

// checkLimit asks what is at a limit, or beyond it.
func checkLimit(t *testing.T, p api.Program, right bool) {
	t.Helper()
	if !right {
		checkWrong(t, p)
		return
	}
	s, e := show.Show(p)
	q, f := parse.Parse(s)
	if !show.Right(p) || e != api.OK || f != none || !same(p, q) {
		t.Errorf("%.200q, %v, %v", s, e, f)
	}
}

var expressions = []struct {
	items []api.Item
	text  string
}{
	{[]api.Item{nums(0)}, "0"},
	{[]api.Item{nums(1, -2, 3)}, "1 _2 3"},
	{[]api.Item{nums(greatest, least)}, "9223372036854775807 _9223372036854775808"},
	{[]api.Item{name("x")}, "x"},
	{[]api.Item{name(long16)}, long16},
	{[]api.Item{name("Out")}, "Out"},

	{[]api.Item{name("x"), one(api.Not)}, "~ x"},
	{[]api.Item{name("x"), one(api.Not), one(api.Not)}, "~ ~ x"},
	{[]api.Item{nums(2, 3), one(api.Turn), one(api.Minus)}, "- turn 2 3"},
	{[]api.Item{name("x"), fold(api.Plus)}, "+/ x"},
	{[]api.Item{name("x"), fold(api.Unlike)}, "~/ x"},
	{[]api.Item{name("x"), scan(api.Most)}, "max\\ x"},
	{[]api.Item{nums(1, 2), scan(api.Power), fold(api.AtLeast)}, ">=/ pow\\ 1 2"},

	{[]api.Item{name("x"), name("y"), two(api.Minus)}, "x - y"},
	{[]api.Item{nums(1, 2), nums(3, -4), two(api.Rho)}, "1 2 rho 3 _4"},
	{[]api.Item{name("x"), name("y"), outer(api.Unlike)}, "x ~. y"},
	{[]api.Item{nums(1, 2), name("y"), outer(api.Least)}, "1 2 min. y"},

	// The text on the left of a verb, and that on its right.
	{[]api.Item{nums(1), nums(2), nums(3), two(api.Minus), two(api.Minus)}, "1 - 2 - 3"},
	{[]api.Item{nums(1), nums(2), two(api.Minus), nums(3), two(api.Minus)}, "(1 - 2) - 3"},
	{[]api.Item{nums(1), one(api.Minus), name("x"), two(api.Cat)}, "(- 1) cat x"},
	{[]api.Item{nums(1), name("x"), one(api.Minus), two(api.Cat)}, "1 cat - x"},
	{[]api.Item{name("x"), fold(api.Plus), name("y"), two(api.Take)}, "(+/ x) take y"},
	{[]api.Item{name("x"), scan(api.Plus), name("y"), two(api.Drop)}, "(+\\ x) drop y"},
	{[]api.Item{name("x"), name("y"), outer(api.Times), name("z"), outer(api.Times)}, "(x *. y) *. z"},
	{[]api.Item{name("x"), name("y"), name("z"), outer(api.Times), outer(api.Times)}, "x *. y *. z"},
	{[]api.Item{name("x"), name("y"), two(api.Plus), one(api.Rev)}, "rev x + y"},
	{[]api.Item{name("x"), one(api.Rev), name("y"), two(api.Plus)}, "(rev x) + y"},
	{[]api.Item{nums(1), nums(2), two(api.And), nums(3), nums(4), two(api.Or), two(api.Equal)}, "(1 and 2) = 3 or 4"},
	{[]api.Item{nums(1), nums(2), two(api.Plus), nums(3), two(api.Plus), nums(4), two(api.Plus)}, "((1 + 2) + 3) + 4"},
	{[]api.Item{name("x"), one(api.Shape), one(api.Ravel), name("n"), two(api.Cat), fold(api.Times)}, "*/ (ravel shape x) cat n"},
}

func TestP51Expressions(t *testing.T) {
	for _, x := range expressions {
		check(t, out(x.items...), "out "+x.text+"\n")
		check(t, ahead(line("y", x.items...)), "y: "+x.text+"\nout 1\n")
	}
}

func TestP51Programs(t *testing.T) {
	product := []api.Item{name("y"), name("x"), two(api.Times), fold(api.Plus)}
	check(t, api.Program{
		Inputs: []api.Input{input("x", dim("n"))},
		Lines:  []api.Line{line("y", nums(1, 2), name("x"), two(api.Plus)), line("", product...)},
	}, "in x n\ny: 1 2 + x\nout +/ y * x\n")
	check(t, api.Program{
		Inputs: []api.Input{
			input("x"), input("x", dim("x"), side(0), side(-7), dim("x")), input(long16, side(greatest), side(least), dim("Iota")),
		},
		Lines: []api.Line{line("x", name("x")), line("x", name("y")), line("", nums(3))},
	}, "in x\nin x x 0 _7 x\nin "+long16+" 9223372036854775807 _9223372036854775808 Iota\nx: x\nx: y\nout 3\n")
	check(t, taking(input("n1", side(1), side(2), side(3), side(4))), "in n1 1 2 3 4\nout 1\n")
}

// TestP51Places: places are not looked at; a list that is empty is as one that is nil.
func TestP51Places(t *testing.T) {
	p := api.Program{
		Inputs: []api.Input{{Name: "x", At: -1, Sides: []api.Side{}}, {Name: "y", At: math.MaxInt}},
		Lines: []api.Line{
			{Name: "z", At: math.MinInt, Items: []api.Item{{How: api.IName, At: 9, Name: "x", Nums: []int64{}}}},
			{At: 3, Items: []api.Item{{How: api.INumbers, At: -5, Nums: []int64{1}}, {How: api.IMonad, At: 1 << 40, Fn: api.Rev, Nums: []int64{}}}},
		},
	}
	check(t, p, "in x\nin y\nz: x\nout rev 1\n")
	q, e := show.Show(api.Program{Inputs: []api.Input{}, Lines: out(nums(1)).Lines})
	if q != "out 1\n" || e != api.OK {
		t.Error(q, e)
	}
}

// ofOne and ofTwo are layer 4's table of verbs.
var ofOne = map[api.Fn]string{
	api.Plus: "+", api.Minus: "-", api.Times: "*", api.Divide: "%", api.Residue: "|", api.Least: "min", api.Most: "max", api.Not: "~",
	api.Iota: "iota", api.Shape: "shape", api.Ravel: "ravel", api.Rev: "rev", api.Turn: "turn",
}

var ofTwo = map[api.Fn]string{
	api.Plus: "+", api.Minus: "-", api.Times: "*", api.Divide: "%", api.Residue: "|", api.Least: "min", api.Most: "max",
	api.Equal: "=", api.Unlike: "~", api.Less: "<", api.AtMost: "<=", api.AtLeast: ">=", api.More: ">", api.And: "and", api.Or: "or", api.Power: "pow",
	api.Rho: "rho", api.Take: "take", api.Drop: "drop", api.Cat: "cat",
}

// TestP51Verbs: of each kind of item each function that there may be, numbers that are none with them.
func TestP51Verbs(t *testing.T) {
	verb := func(items []api.Item, form, s string, is bool) {
		t.Helper()
		if is {
			check(t, out(items...), "out "+fmt.Sprintf(form, s)+"\n")
		} else {
			checkWrong(t, out(items...))
		}
	}
	x, y := name("x"), name("y")
	for i := range 256 {
		f := api.Fn(i)
		s, is := ofOne[f]
		verb([]api.Item{x, one(f)}, "%s x", s, is)
		s, is = ofTwo[f]
		verb([]api.Item{x, y, two(f)}, "x %s y", s, is)
		numbers := is && f <= api.Power
		verb([]api.Item{x, fold(f)}, "%s/ x", s, numbers)
		verb([]api.Item{x, scan(f)}, "%s\\ x", s, numbers)
		verb([]api.Item{x, y, outer(f)}, "x %s. y", s, numbers)
	}
}

// noNames may not stand where a name must.
var noNames = []string{"in", "out", "iota", "max", "pow", "cat", "turn", "+", "/", "1", "_1", "x y", " x", "x ", "x\n", "x:", "x#", "x.", "x_", "é", "x\x00", long16 + "q", "x: 1\nout", strings.Repeat("x", 1<<20)}

func TestP51Names(t *testing.T) {
	for _, s := range noNames {
		checkWrong(t, out(name(s)))
		checkWrong(t, ahead(line(s, nums(1))))
		checkWrong(t, taking(input(s)))
		checkWrong(t, taking(input("x", dim("n"), dim(s))))
	}
	checkWrong(t, out(name("")))
	checkWrong(t, taking(input("")))
	checkWrong(t, ahead(line("", nums(1))))
	checkWrong(t, api.Program{Lines: []api.Line{line("x", nums(1))}})
	checkWrong(t, api.Program{Lines: []api.Line{line("", nums(1)), line("x", nums(1))}})
}

func TestP51Inputs(t *testing.T) {
	checkWrong(t, api.Program{Inputs: []api.Input{input("x")}})
	checkWrong(t, taking(input("x", api.Side{Name: "n", N: 1})))
	checkWrong(t, taking(input("x", api.Side{Name: "n", N: -1})))
	checkWrong(t, taking(input("x", dim("n"), api.Side{Name: "n", N: least})))
	for n := range 12 {
		checkLimit(t, taking(api.Input{Name: "x", Sides: make([]api.Side, n)}), n <= 4)
		checkLimit(t, taking(api.Input{Name: "x", Sides: slices.Repeat([]api.Side{dim("n")}, n)}), n <= 4)
	}
}

// wrong are items that no expression has, whatever stands ahead of them.
var wrong = []api.Item{
	{},
	{How: 8, Name: "x"},
	{How: -1, Nums: []int64{1}},
	{How: math.MaxInt, Fn: api.Plus},
	{How: math.MinInt, Fn: api.Plus},
	{How: 1 << 32, Nums: []int64{1}},
	{How: 0, Name: "x"},
	{How: 0, Nums: []int64{1}},

	{How: api.INumbers},
	{How: api.INumbers, Nums: []int64{}},
	{How: api.INumbers, Nums: []int64{1}, Fn: api.Plus},
	{How: api.INumbers, Nums: []int64{1}, Fn: 255},
	{How: api.INumbers, Nums: []int64{1}, Name: "x"},
	{How: api.INumbers, Name: "x"},
	{How: api.IName, Name: "x", Nums: []int64{1}},
	{How: api.IName, Name: "x", Nums: []int64{0}},
	{How: api.IName, Name: "x", Fn: api.Plus},
	{How: api.IName, Nums: []int64{1}},
	{How: api.IMonad, Fn: api.Plus, Name: "x"},
	{How: api.IMonad, Fn: api.Plus, Nums: []int64{1}},
	{How: api.IDyad, Fn: api.Plus, Name: "x"},
	{How: api.IDyad, Fn: api.Plus, Nums: []int64{1}},
	{How: api.IFold, Fn: api.Plus, Name: "x"},
	{How: api.IFold, Fn: api.Plus, Nums: []int64{1}},
	{How: api.IScan, Fn: api.Plus, Name: "x"},
	{How: api.IScan, Fn: api.Plus, Nums: []int64{1}},
	{How: api.IOuter, Fn: api.Plus, Name: "x"},
	{How: api.IOuter, Fn: api.Plus, Nums: []int64{1}},
}

func TestP51Items(t *testing.T) {
	x, y := name("x"), name("y")
	for _, i := range wrong {
		for _, items := range [][]api.Item{{i}, {x, i}, {x, y, i}, {x, y, i, two(api.Plus)}, {i, one(api.Rev)}, {x, i, two(api.Plus)}} {
			checkWrong(t, out(items...))
			checkWrong(t, ahead(line("z", items...)))
		}
	}
}

// TestP51Values: each item's values stand ahead of it, and one is left.
func TestP51Values(t *testing.T) {
	x, y := name("x"), name("y")
	for _, items := range [][]api.Item{
		{}, {x, y}, {x, nums(1)}, {x, y, x, two(api.Plus)},
		{one(api.Plus)}, {fold(api.Plus)}, {scan(api.Plus)}, {two(api.Plus)}, {outer(api.Plus)},
		{x, two(api.Plus)}, {x, outer(api.Plus)}, {two(api.Plus), x, y}, {x, two(api.Plus), y}, {one(api.Rev), x},
		{x, y, two(api.Plus), two(api.Plus)}, {x, one(api.Rev), two(api.Plus)},
	} {
		checkWrong(t, out(items...))
		checkWrong(t, ahead(line("z", items...)))
	}
}

func TestP51Lines(t *testing.T) {
	checkWrong(t, api.Program{})
	for n := range 70 {
		inputs := slices.Repeat([]api.Input{input("x", dim("n"))}, n)
		lines := slices.Repeat([]api.Line{line("x", nums(1))}, n)
		last := line("", nums(1))
		checkLimit(t, api.Program{Inputs: inputs, Lines: []api.Line{last}}, n < 64)
		checkLimit(t, api.Program{Lines: append(lines, last)}, n < 64)
		half := api.Program{Inputs: inputs[:n/2], Lines: append(slices.Clone(lines[:n-n/2]), last)}
		checkLimit(t, half, n < 64)
	}
}

// TestP51Tokens: at most MaxTokens in each line, out, a line's name and its sign with them.
func TestP51Tokens(t *testing.T) {
	limit := func(items []api.Item, tokens int) {
		t.Helper()
		checkLimit(t, out(items...), tokens <= 255)
		checkLimit(t, ahead(line("x", items...)), tokens <= 254)
	}
	x := name("x")
	for n := 1; n < 300; n++ {
		limit([]api.Item{{How: api.INumbers, Nums: make([]int64, n)}}, n)
		limit(append([]api.Item{x}, slices.Repeat([]api.Item{one(api.Rev)}, n)...), n+1)
		limit(append([]api.Item{x}, slices.Repeat([]api.Item{fold(api.Plus)}, n)...), 2*n+1)
		limit(append([]api.Item{x}, slices.Repeat([]api.Item{scan(api.Less)}, n)...), 2*n+1)
		limit(append(slices.Repeat([]api.Item{x}, n), slices.Repeat([]api.Item{two(api.Rho)}, n-1)...), 2*n-1)
		limit(append(slices.Repeat([]api.Item{x}, n), slices.Repeat([]api.Item{outer(api.Plus)}, n-1)...), 3*n-2)
		bracketed := append(slices.Repeat([]api.Item{x, one(api.Rev)}, n), slices.Repeat([]api.Item{two(api.Plus)}, n-1)...)
		limit(bracketed, 2*n+3*(n-1))
	}
}

// TestP51Nest: at most MaxNest brackets that are open at one time.
func TestP51Nest(t *testing.T) {
	x := name("x")
	for n := range 45 {
		left := append([]api.Item{x}, slices.Repeat([]api.Item{x, two(api.Plus)}, n+1)...)
		checkLimit(t, out(left...), n <= 32)
		checkLimit(t, ahead(line("x", left...)), n <= 32)
		checkLimit(t, out(append(slices.Clone(left), one(api.Rev))...), n <= 32)
		// Such brackets on both sides of a verb: on its left one more is open.
		both := slices.Concat([]api.Item{x, x, two(api.Plus)}, left, []api.Item{two(api.Plus)})
		checkLimit(t, out(both...), n <= 32)
		both = slices.Concat(left, []api.Item{x, x, two(api.Plus), two(api.Plus)})
		checkLimit(t, out(both...), n <= 31)
		// Those of what stands on a verb's right are open in all that is around it.
		right := slices.Concat([]api.Item{x}, left, []api.Item{two(api.Plus), x, two(api.Plus)})
		checkLimit(t, out(right...), n <= 31)
		for _, verb := range []api.Item{one(api.Rev), fold(api.Plus), scan(api.Plus)} {
			checkLimit(t, out(append(slices.Clone(left), verb, x, two(api.Plus))...), n <= 31)
		}
		outers := append([]api.Item{x}, slices.Repeat([]api.Item{x, outer(api.Plus)}, n+1)...)
		checkLimit(t, out(outers...), n <= 32)
	}
	side := append([]api.Item{x}, slices.Repeat([]api.Item{x, two(api.Plus)}, 33)...)
	checkLimit(t, out(slices.Concat([]api.Item{x}, side, []api.Item{two(api.Plus)})...), true)
	// Those that are closed are not open any more.
	one := []api.Item{x, one(api.Rev)}
	checkLimit(t, out(slices.Concat(slices.Repeat(one, 40), slices.Repeat([]api.Item{two(api.Plus)}, 39))...), true)
}

// long is a program whose text has so many bytes and 64044 ones more.
func long(last []int64) api.Program {
	l := line("y", api.Item{How: api.INumbers, Nums: slices.Repeat([]int64{least}, 254)})
	return api.Program{Lines: append(slices.Repeat([]api.Line{l}, 12), line("", nums(last...)))}
}

// TestP51Long: a text of MaxText bytes, and one of one more; what may not be is told ahead of that.
func TestP51Long(t *testing.T) {
	last := slices.Repeat([]int64{least}, 70)
	fits := append(slices.Clone(last), 1e16)
	checkLimit(t, long(fits), true)
	if s, _ := show.Show(long(fits)); len(s) != api.MaxText {
		t.Fatal(len(s))
	}
	beyond := long(append(last, 1e17))
	if s, e := show.Show(beyond); s != "" || e != api.ErrLexLong || !show.Right(beyond) {
		t.Error(len(s), e)
	}
	l := beyond.Lines
	greater := api.Program{Lines: slices.Concat(l[:12], l[:12], l[:12], l[:12], l[:12], l[12:])}
	if s, e := show.Show(greater); s != "" || e != api.ErrLexLong || !show.Right(greater) {
		t.Error(len(s), e)
	}
	checkWrong(t, api.Program{Lines: slices.Concat(l, l[12:])})
	checkWrong(t, api.Program{Lines: slices.Concat(l[:12], []api.Line{line("")})})
	checkWrong(t, api.Program{Inputs: []api.Input{input("in")}, Lines: l})
	checkWrong(t, api.Program{Lines: slices.Concat(l[:12], l[:12], l[:12], l[:12], l[:12], l[:3], l[12:], l[12:])})
}

// TestR1Many: lists beyond all limits.
func TestR1Many(t *testing.T) {
	many := nums(make([]int64, 1<<20)...)
	checkWrong(t, out(many))
	checkWrong(t, out(slices.Repeat([]api.Item{many}, 1<<16)...))
	checkWrong(t, out(slices.Repeat([]api.Item{name("x")}, 1<<20)...))
	checkWrong(t, out(append([]api.Item{name("x")}, slices.Repeat([]api.Item{one(api.Rev)}, 1<<20)...)...))
	checkWrong(t, out(append([]api.Item{name("x")}, slices.Repeat([]api.Item{name("x"), two(api.Rho)}, 1<<20)...)...))
	checkWrong(t, out(slices.Repeat([]api.Item{two(api.Rho)}, 1<<20)...))
	checkWrong(t, api.Program{Lines: slices.Repeat([]api.Line{line("x", many)}, 1<<16)})
	checkWrong(t, api.Program{Lines: slices.Repeat([]api.Line{line("x", nums(1))}, 1<<20)})
	checkWrong(t, api.Program{Inputs: slices.Repeat([]api.Input{input("x")}, 1<<20), Lines: out(nums(1)).Lines})
	checkWrong(t, taking(api.Input{Name: "x", Sides: make([]api.Side, 1<<20)}))
}

// TestR4Kept: what is handed in is not changed, and what is behind a list's length is not read.
func TestR4Kept(t *testing.T) {
	build := func() api.Program {
		items := []api.Item{name("x"), one(api.Rev), nums(7, 8, 9), two(api.Cat), {How: 9}}
		return api.Program{
			Inputs: []api.Input{input("x", dim("n"), api.Side{Name: "max", N: 1}), input("out")},
			Lines:  []api.Line{line("", items...), line("in")},
		}
	}
	whole := build()
	p := whole
	p.Inputs = p.Inputs[:1]
	p.Inputs[0].Sides = p.Inputs[0].Sides[:1]
	p.Lines = p.Lines[:1]
	p.Lines[0].Items = p.Lines[0].Items[:4]
	p.Lines[0].Items[2].Nums = p.Lines[0].Items[2].Nums[:1]
	for range 3 {
		check(t, p, "in x n\nout (rev x) cat 7\n")
	}
	whole.Inputs[0].Sides = whole.Inputs[0].Sides[:2]
	whole.Lines[0].Items = whole.Lines[0].Items[:5]
	whole.Lines[0].Items[2].Nums = whole.Lines[0].Items[2].Nums[:3]
	if !same(whole, build()) {
		t.Error(whole)
	}
}
