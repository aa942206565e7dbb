package parse_test

import (
	"math/rand"
	"regexp"
	"slices"
	"strings"
	"testing"

	"windrow/api"
	"windrow/parse"
)

var none api.Fault

func fault(at int, e api.Errno) api.Fault { return api.Fault{At: at, Code: e} }

func nums(at int, l ...int64) api.Item { return api.Item{How: api.INumbers, At: at, Nums: l} }

func name(at int, s string) api.Item { return api.Item{How: api.IName, At: at, Name: s} }

func verb(how, at int, f api.Fn) api.Item { return api.Item{How: how, At: at, Fn: f} }

func input(at int, s string, sides ...api.Side) api.Input {
	return api.Input{Name: s, At: at, Sides: sides}
}

func line(at int, s string, items ...api.Item) api.Line {
	return api.Line{Name: s, At: at, Items: items}
}

func dim(s string) api.Side { return api.Side{Name: s} }

func side(n int64) api.Side { return api.Side{N: n} }

// same holds programs against each other, a nil list being an empty one.
func same(a, b api.Program) bool {
	items := func(x, y api.Item) bool {
		return x.How == y.How && x.At == y.At && x.Fn == y.Fn && x.Name == y.Name && slices.Equal(x.Nums, y.Nums)
	}
	lines := func(x, y api.Line) bool {
		return x.Name == y.Name && x.At == y.At && slices.EqualFunc(x.Items, y.Items, items)
	}
	inputs := func(x, y api.Input) bool {
		return x.Name == y.Name && x.At == y.At && slices.Equal(x.Sides, y.Sides)
	}
	return slices.EqualFunc(a.Inputs, b.Inputs, inputs) && slices.EqualFunc(a.Lines, b.Lines, lines)
}

// apart is a program without its places.
func apart(p api.Program) api.Program {
	var q api.Program
	for _, in := range p.Inputs {
		in.At = 0
		q.Inputs = append(q.Inputs, in)
	}
	for _, l := range p.Lines {
		l.At = 0
		l.Items = slices.Clone(l.Items)
		for i := range l.Items {
			l.Items[i].At = 0
		}
		q.Lines = append(q.Lines, l)
	}
	return q
}

func empty(p api.Program) bool { return len(p.Inputs) == 0 && len(p.Lines) == 0 }

const (
	greatest = 1<<63 - 1
	least    = -1 << 63
	long16   = "abcdefghijklmnop"
)

var programs = []struct {
	text string
	p    api.Program
}{
	{"in x n\ny: 1 2 + x\nout +/ y * x", api.Program{
		Inputs: []api.Input{input(3, "x", dim("n"))},
		Lines: []api.Line{
			line(7, "y", nums(10, 1, 2), name(16, "x"), verb(api.IDyad, 14, api.Plus)),
			line(18, "", name(25, "y"), name(29, "x"), verb(api.IDyad, 27, api.Times), verb(api.IFold, 22, api.Plus)),
		}}},
	{"out 1", api.Program{Lines: []api.Line{line(0, "", nums(4, 1))}}},
	{"out x\n", api.Program{Lines: []api.Line{line(0, "", name(4, "x"))}}},
	{"out1: 2\nout out1", api.Program{Lines: []api.Line{line(0, "out1", nums(6, 2)), line(8, "", name(12, "out1"))}}},
	{"\n\t\n # in x\nin x\n\nin x x 0 _3 x # n\n#\nx:x\nx:\tx\n\n out x # out\n\n \t#x\n", api.Program{
		Inputs: []api.Input{input(14, "x"), input(20, "x", dim("x"), side(0), side(-3), dim("x"))},
		Lines: []api.Line{
			line(37, "x", name(39, "x")),
			line(41, "x", name(44, "x")),
			line(48, "", name(52, "x")),
		}}},
	{"in Iota 9223372036854775807 _9223372036854775808 " + long16 + "\nout 9223372036854775807_9223372036854775808", api.Program{
		Inputs: []api.Input{input(3, "Iota", side(greatest), side(least), dim(long16))},
		Lines:  []api.Line{line(66, "", nums(70, greatest, least))}}},
	{"in x 1 2 3 4\nout 1", api.Program{
		Inputs: []api.Input{input(3, "x", side(1), side(2), side(3), side(4))},
		Lines:  []api.Line{line(13, "", nums(17, 1))}}},
	{"x : 1\nout\t2", api.Program{Lines: []api.Line{line(0, "x", nums(4, 1)), line(6, "", nums(10, 2))}}},
}

func TestP41Programs(t *testing.T) {
	for _, x := range programs {
		p, f := parse.Parse(x.text)
		if f != none || !same(p, x.p) {
			t.Errorf("%q: %v, %v; wanted %v", x.text, p, f, x.p)
		}
	}
}

// expressions stand behind out; their places are told as if they stood alone.
var expressions = []struct {
	text  string
	items []api.Item
}{
	{"0", []api.Item{nums(0, 0)}},
	{"1 _2\t3_4", []api.Item{nums(0, 1, -2, 3, -4)}},
	{"x", []api.Item{name(0, "x")}},
	{"((x))", []api.Item{name(2, "x")}},
	{"(((1 2)))", []api.Item{nums(3, 1, 2)}},
	{"1 - 2 - 3", []api.Item{nums(0, 1), nums(4, 2), nums(8, 3), verb(api.IDyad, 6, api.Minus), verb(api.IDyad, 2, api.Minus)}},
	{"(1 - 2) - 3", []api.Item{nums(1, 1), nums(5, 2), verb(api.IDyad, 3, api.Minus), nums(10, 3), verb(api.IDyad, 8, api.Minus)}},
	{"1 * (2 + 3) * 4", []api.Item{nums(0, 1), nums(5, 2), nums(9, 3), verb(api.IDyad, 7, api.Plus), nums(14, 4), verb(api.IDyad, 12, api.Times), verb(api.IDyad, 2, api.Times)}},
	{"- 1 + 2", []api.Item{nums(2, 1), nums(6, 2), verb(api.IDyad, 4, api.Plus), verb(api.IMonad, 0, api.Minus)}},
	{"1 + - 2", []api.Item{nums(0, 1), nums(6, 2), verb(api.IMonad, 4, api.Minus), verb(api.IDyad, 2, api.Plus)}},
	{"--x", []api.Item{name(2, "x"), verb(api.IMonad, 1, api.Minus), verb(api.IMonad, 0, api.Minus)}},
	{"(-x)", []api.Item{name(2, "x"), verb(api.IMonad, 1, api.Minus)}},
	{"(-x)max(+y)", []api.Item{name(2, "x"), verb(api.IMonad, 1, api.Minus), name(9, "y"), verb(api.IMonad, 8, api.Plus), verb(api.IDyad, 4, api.Most)}},
	{"-(x)max y", []api.Item{name(2, "x"), name(8, "y"), verb(api.IDyad, 4, api.Most), verb(api.IMonad, 0, api.Minus)}},
	{"+/x", []api.Item{name(2, "x"), verb(api.IFold, 0, api.Plus)}},
	{"+ / x", []api.Item{name(4, "x"), verb(api.IFold, 0, api.Plus)}},
	{"pow\\x", []api.Item{name(4, "x"), verb(api.IScan, 0, api.Power)}},
	{"pow \\ x", []api.Item{name(6, "x"), verb(api.IScan, 0, api.Power)}},
	{"~/x", []api.Item{name(2, "x"), verb(api.IFold, 0, api.Unlike)}},
	{"~\\~x", []api.Item{name(3, "x"), verb(api.IMonad, 2, api.Not), verb(api.IScan, 0, api.Unlike)}},
	{"x~~y", []api.Item{name(0, "x"), name(3, "y"), verb(api.IMonad, 2, api.Not), verb(api.IDyad, 1, api.Unlike)}},
	{"x pow . y", []api.Item{name(0, "x"), name(8, "y"), verb(api.IOuter, 2, api.Power)}},
	{"x<=.y", []api.Item{name(0, "x"), name(4, "y"), verb(api.IOuter, 1, api.AtMost)}},
	{"x *.-\\y", []api.Item{name(0, "x"), name(6, "y"), verb(api.IScan, 4, api.Minus), verb(api.IOuter, 2, api.Times)}},
	{"2 3 rho iota n", []api.Item{nums(0, 2, 3), name(13, "n"), verb(api.IMonad, 8, api.Iota), verb(api.IDyad, 4, api.Rho)}},
	{"(shape x) cat n", []api.Item{name(7, "x"), verb(api.IMonad, 1, api.Shape), name(14, "n"), verb(api.IDyad, 10, api.Cat)}},
	{"x take rev y drop turn ravel z", []api.Item{name(0, "x"), name(11, "y"), name(29, "z"), verb(api.IMonad, 23, api.Ravel), verb(api.IMonad, 18, api.Turn), verb(api.IDyad, 13, api.Drop), verb(api.IMonad, 7, api.Rev), verb(api.IDyad, 2, api.Take)}},
}

func TestP41Expressions(t *testing.T) {
	for _, x := range expressions {
		items := slices.Clone(x.items)
		for i := range items {
			items[i].At += len("out ")
		}
		p, f := parse.Parse("out " + x.text)
		if f != none || !same(p, api.Program{Lines: []api.Line{line(0, "", items...)}}) {
			t.Errorf("%q: %v, %v; wanted %v", x.text, p, f, items)
		}
	}
}

// lines are lines of that number, each with an end.
func lines(n int, s string) string { return strings.Repeat(s+"\n", n) }

var faults = []struct {
	text string
	f    api.Fault
}{
	// Layer 3's fault goes ahead of all others, wherever it stands.
	{"out 1 +\nout _", fault(12, api.ErrLexByte)},
	{"out 9223372036854775808", fault(4, api.ErrLexNumber)},
	{") ) )\nx" + long16, fault(6, api.ErrLexName)},
	{strings.Repeat(" ", api.MaxText+1), fault(0, api.ErrLexLong)},

	// Texts without the line that begins with out.
	{"", fault(0, api.ErrParseWant)},
	{"\n", fault(1, api.ErrParseWant)},
	{" # out 1", fault(8, api.ErrParseWant)},
	{"in x", fault(4, api.ErrParseWant)},
	{"in x\n\n", fault(6, api.ErrParseWant)},
	{"x: 1 # x", fault(8, api.ErrParseWant)},
	{strings.Repeat(" ", api.MaxText), fault(api.MaxText, api.ErrParseWant)},

	// Lines of no kind, and lines at the wrong place.
	{"max: 1", fault(0, api.ErrParseLine)},
	{" iota n", fault(1, api.ErrParseLine)},
	{"out 1\n", none},
	{"1", fault(0, api.ErrParseLine)},
	{"(x)", fault(0, api.ErrParseLine)},
	{": 1", fault(0, api.ErrParseLine)},
	{"+/x\nout _", fault(8, api.ErrLexByte)},
	{"x: 1\n) 2\nout 3", fault(5, api.ErrParseLine)},
	{"x: 1\nin y\nout x", fault(5, api.ErrParseLine)},
	{"x: 1\n in\nout x", fault(6, api.ErrParseLine)},
	{"out 1\nin x", fault(6, api.ErrParseLine)},
	{"out 1\n\n out 2", fault(8, api.ErrParseLine)},
	{"out 1\nx: 2", fault(6, api.ErrParseLine)},
	{"out 1\nx 2", fault(6, api.ErrParseLine)},
	{"out 1\n)", fault(6, api.ErrParseLine)},
	{"out 1\nout", fault(6, api.ErrParseLine)},
	{"out 1)\nout 2", fault(5, api.ErrParseRest)},
	{"max: 1\nout", fault(0, api.ErrParseLine)},

	// Inputs.
	{"in", fault(2, api.ErrParseWant)},
	{"in # x\nout 1", fault(6, api.ErrParseWant)},
	{"in\nout 1", fault(2, api.ErrParseWant)},
	{"in out", fault(3, api.ErrParseWord)},
	{"in in", fault(3, api.ErrParseWord)},
	{"in 3", fault(3, api.ErrParseWord)},
	{"in iota", fault(3, api.ErrParseWord)},
	{"in + x", fault(3, api.ErrParseWord)},
	{"in (x)", fault(3, api.ErrParseWord)},
	{"in : 1", fault(3, api.ErrParseWord)},
	{"in: 1", fault(2, api.ErrParseWord)},
	{"in x +", fault(5, api.ErrParseWord)},
	{"in x in", fault(5, api.ErrParseWord)},
	{"in x 3 out", fault(7, api.ErrParseWord)},
	{"in x: 1", fault(4, api.ErrParseWord)},
	{"in x n max", fault(7, api.ErrParseWord)},
	{"in x 1 2 3 4 5", fault(13, api.ErrParseMany)},
	{"in x a b c d e", fault(13, api.ErrParseMany)},
	{"in x 1 2 3 4 +", fault(13, api.ErrParseWord)},
	{"in x 1 2 3 4 5 +", fault(13, api.ErrParseMany)},
	{"in x 1 2 3 + 5 6", fault(11, api.ErrParseWord)},
	{"in x\nin y 1 2 3 4 5\nout", fault(18, api.ErrParseMany)},

	// Names of lines.
	{"x", fault(1, api.ErrParseWant)},
	{"x  # :", fault(6, api.ErrParseWant)},
	{"x\n: 1", fault(1, api.ErrParseWant)},
	{"x 1", fault(2, api.ErrParseWant)},
	{"x y: 1", fault(2, api.ErrParseWant)},
	{"x = 1", fault(2, api.ErrParseWant)},
	{"x in", fault(2, api.ErrParseWant)},
	{"x (1)", fault(2, api.ErrParseWant)},
	{"x:", fault(2, api.ErrParseWant)},
	{"x:: 1", fault(2, api.ErrParseWant)},
	{"out: 1", fault(3, api.ErrParseWant)},

	// Where an expression begins.
	{"out", fault(3, api.ErrParseWant)},
	{"out \n1", fault(4, api.ErrParseWant)},
	{"out # 1\n", fault(7, api.ErrParseWant)},
	{"out out", fault(4, api.ErrParseWord)},
	{"out in", fault(4, api.ErrParseWord)},
	{"out - in x", fault(6, api.ErrParseWord)},
	{"out 1 + out", fault(8, api.ErrParseWord)},
	{"out (in)", fault(5, api.ErrParseWord)},
	{"out +/ in", fault(7, api.ErrParseWord)},
	{"out )", fault(4, api.ErrParseWant)},
	{"out ()", fault(5, api.ErrParseWant)},
	{"out (", fault(5, api.ErrParseWant)},
	{"out ( # 1)", fault(10, api.ErrParseWant)},
	{"out (\n1)", fault(5, api.ErrParseWant)},
	{"out /", fault(4, api.ErrParseWant)},
	{"out \\ x", fault(4, api.ErrParseWant)},
	{"out . x", fault(4, api.ErrParseWant)},
	{"out : x", fault(4, api.ErrParseWant)},
	{"out 1 +", fault(7, api.ErrParseWant)},
	{"out 1 +\nout 2", fault(7, api.ErrParseWant)},
	{"out 1 + )", fault(8, api.ErrParseWant)},
	{"out 1 +. / 2", fault(9, api.ErrParseWant)},
	{"out (1 +) 2", fault(8, api.ErrParseWant)},
	{"out -", fault(5, api.ErrParseWant)},
	{"out +/", fault(6, api.ErrParseWant)},
	{"out +//x", fault(6, api.ErrParseWant)},
	{"out +/\\x", fault(6, api.ErrParseWant)},
	{"out +\\.x", fault(6, api.ErrParseWant)},
	{"out x +..y", fault(8, api.ErrParseWant)},

	// Verbs of another valence, where an expression begins.
	{"out = 1", fault(4, api.ErrParseFn)},
	{"out pow 1", fault(4, api.ErrParseFn)},
	{"out cat x", fault(4, api.ErrParseFn)},
	{"out rho", fault(4, api.ErrParseFn)},
	{"out and", fault(4, api.ErrParseFn)},
	{"out iota/ 1", fault(4, api.ErrParseFn)},
	{"out iota \\ 1", fault(4, api.ErrParseFn)},
	{"out rho/ 1", fault(4, api.ErrParseFn)},
	{"out take/ 1", fault(4, api.ErrParseFn)},
	{"out drop\\ 1", fault(4, api.ErrParseFn)},
	{"out cat\\ 1", fault(4, api.ErrParseFn)},
	{"out turn/", fault(4, api.ErrParseFn)},
	{"out +. 2", fault(4, api.ErrParseFn)},
	{"out + . 2", fault(4, api.ErrParseFn)},
	{"out iota. 2", fault(4, api.ErrParseFn)},
	{"out =.", fault(4, api.ErrParseFn)},
	{"out - = 1", fault(6, api.ErrParseFn)},
	{"out (= 1)", fault(5, api.ErrParseFn)},
	{"out x - < 1", fault(8, api.ErrParseFn)},

	// Behind an operand.
	{"out 1 iota 2", fault(6, api.ErrParseFn)},
	{"out 1 shape", fault(6, api.ErrParseFn)},
	{"out x rev y", fault(6, api.ErrParseFn)},
	{"out (x) turn y", fault(8, api.ErrParseFn)},
	{"out 1 < /2", fault(6, api.ErrParseFn)},
	{"out 1 + / 2", fault(6, api.ErrParseFn)},
	{"out x +\\ 2", fault(6, api.ErrParseFn)},
	{"out x cat/ 2", fault(6, api.ErrParseFn)},
	{"out x rho. 2", fault(6, api.ErrParseFn)},
	{"out x take . 2", fault(6, api.ErrParseFn)},
	{"out x drop. 2", fault(6, api.ErrParseFn)},
	{"out x cat.", fault(6, api.ErrParseFn)},
	{"out x iota. 2", fault(6, api.ErrParseFn)},
	{"out a b", fault(6, api.ErrParseRest)},
	{"out a 1", fault(6, api.ErrParseRest)},
	{"out 1 a", fault(6, api.ErrParseRest)},
	{"out 1 in", fault(6, api.ErrParseRest)},
	{"out 1 out 2", fault(6, api.ErrParseRest)},
	{"out 1 (2)", fault(6, api.ErrParseRest)},
	{"out (1) 2", fault(8, api.ErrParseRest)},
	{"out (1)(2)", fault(7, api.ErrParseRest)},
	{"out (1 a)", fault(7, api.ErrParseRest)},
	{"out 1 / 2", fault(6, api.ErrParseRest)},
	{"out x \\ 2", fault(6, api.ErrParseRest)},
	{"out x . y", fault(6, api.ErrParseRest)},
	{"out x: y", fault(5, api.ErrParseRest)},
	{"y: x: 1", fault(4, api.ErrParseRest)},
	{"out 1)", fault(5, api.ErrParseRest)},
	{"out (1))", fault(7, api.ErrParseRest)},
	{"out (1)) + in", fault(7, api.ErrParseRest)},
	{"out (1", fault(6, api.ErrParseWant)},
	{"out (1\n)", fault(6, api.ErrParseWant)},
	{"out ((1)", fault(8, api.ErrParseWant)},
	{"out (1 + (2 # )", fault(15, api.ErrParseWant)},
	{"out (1 + x\nout 1", fault(10, api.ErrParseWant)},

	// The first of several faults: line by line, token by token.
	{"out 1 iota 2 )", fault(6, api.ErrParseFn)},
	{"out a b = 1", fault(6, api.ErrParseRest)},
	{"out iota/ in", fault(4, api.ErrParseFn)},
	{"in x in in", fault(5, api.ErrParseWord)},
	{"x y\n1", fault(2, api.ErrParseWant)},
	{"x: (1\nin y\n1", fault(5, api.ErrParseWant)},
}

func TestP41Faults(t *testing.T) {
	for _, x := range faults {
		p, f := parse.Parse(x.text)
		if f != x.f || f != none && !empty(p) {
			t.Errorf("%.60q: %v, %v; wanted %v", x.text, p, f, x.f)
		}
	}
}

// limits are at a limit, or beyond it.
var limits = []struct {
	text string
	f    api.Fault
}{
	{lines(63, "x:1") + "out x", none},
	{lines(64, "x:1") + "out x", fault(256, api.ErrParseMany)},
	{lines(64, "x:1"), fault(256, api.ErrParseWant)},
	{lines(65, "x:1"), fault(256, api.ErrParseMany)},
	{lines(63, "in x") + "out x", none},
	{lines(64, "in x") + "out x", fault(320, api.ErrParseMany)},
	{lines(32, "in x") + lines(31, "x:1") + "out x\n", none},
	{lines(32, "in x") + lines(32, "x:1") + "\n # x\n  )", fault(296, api.ErrParseMany)},
	{lines(200, "") + lines(63, "x:1\n#\n \t") + "\nout x" + lines(200, ""), none},
	{lines(63, "x:1") + "out x\nout x", fault(258, api.ErrParseMany)},
	{lines(62, "x:1") + "out x\nout x", fault(254, api.ErrParseLine)},
	{lines(63, "x:1") + "out x\nin x", fault(258, api.ErrParseMany)},
	{lines(64, "x:1") + strings.Repeat("1 ", 257), fault(256, api.ErrParseMany)},
	{lines(63, "x:1") + "x\n1", fault(253, api.ErrParseWant)},

	{"out " + strings.Repeat("1 ", 255), none},
	{"out " + strings.Repeat("1 ", 256), fault(514, api.ErrParseMany)},
	{"out " + strings.Repeat("1 ", 10000), fault(514, api.ErrParseMany)},
	{"out " + strings.Repeat("-", 254) + "1", none},
	{"out " + strings.Repeat("-", 254) + " 1 # -", none},
	{"out " + strings.Repeat("-", 255) + "1", fault(259, api.ErrParseMany)},
	{"out " + strings.Repeat("x+", 127) + "x", none},
	{"out " + strings.Repeat("x+", 128), fault(259, api.ErrParseMany)},
	{"x:" + strings.Repeat("1 ", 254) + "\nout x", none},
	{"x:" + strings.Repeat("1 ", 255) + "\nout x", fault(510, api.ErrParseMany)},
	{"out " + strings.Repeat("-", 255), fault(259, api.ErrParseWant)},
	{"x:1\nout " + strings.Repeat("-", 60000), fault(263, api.ErrParseMany)},

	{"out " + strings.Repeat("(", 32) + "1" + strings.Repeat(")", 32), none},
	{"out " + strings.Repeat("(", 33) + "1" + strings.Repeat(")", 33), fault(36, api.ErrParseNest)},
	{"out " + strings.Repeat("(", 32), fault(36, api.ErrParseWant)},
	{"out " + strings.Repeat("(", 32) + ")", fault(36, api.ErrParseWant)},
	{"out " + strings.Repeat("-(", 32) + "1" + strings.Repeat(")", 32), none},
	{"out " + strings.Repeat("1+(", 33), fault(4+32*3+2, api.ErrParseNest)},
	{"out " + strings.Repeat("(1)+", 63) + "1", none},
	{"out " + strings.Repeat("(", 31) + "(1)+(1)" + strings.Repeat(")", 31), none},
	{"out " + strings.Repeat("(", 31) + "(1)+((1))", fault(40, api.ErrParseNest)},
}

func TestP41Limits(t *testing.T) {
	for _, x := range limits {
		p, f := parse.Parse(x.text)
		if f != x.f || empty(p) != (f != none) {
			t.Errorf("%.40q .. %d bytes: %v; wanted %v", x.text, len(x.text), f, x.f)
		}
	}
}

// TestP41Long: what is wrong of a line as a whole is told ahead of what is wrong within it.
func TestP41Long(t *testing.T) {
	for _, s := range []string{"out a ", "in x ", "1 ", "x ", "out in ", "out 1\n1 ", "x:1\nin ", "out ( in "} {
		text := s + strings.Repeat("1 ", 256)
		tokens := len(strings.Fields(strings.ReplaceAll(s[strings.LastIndex(s, "\n")+1:], ":", " :")))
		at := len(s) + 2*(256-tokens)
		if _, f := parse.Parse(text); f != fault(at, api.ErrParseMany) {
			t.Errorf("%q and 256 numbers: %v; wanted %v", s, f, fault(at, api.ErrParseMany))
		}
	}
}

// table is layer 4's table of verbs: what each is of one and of two.
var table = map[string][2]api.Fn{
	"+": {api.Plus, api.Plus}, "-": {api.Minus, api.Minus}, "*": {api.Times, api.Times}, "%": {api.Divide, api.Divide},
	"|": {api.Residue, api.Residue}, "min": {api.Least, api.Least}, "max": {api.Most, api.Most}, "~": {api.Not, api.Unlike},
	"=": {0, api.Equal}, "<": {0, api.Less}, "<=": {0, api.AtMost}, ">=": {0, api.AtLeast}, ">": {0, api.More},
	"and": {0, api.And}, "or": {0, api.Or}, "pow": {0, api.Power},
	"rho": {0, api.Rho}, "take": {0, api.Take}, "drop": {0, api.Drop}, "cat": {0, api.Cat},
	"iota": {api.Iota, 0}, "shape": {api.Shape, 0}, "ravel": {api.Ravel, 0}, "rev": {api.Rev, 0}, "turn": {api.Turn, 0},
}

// others are no verbs.
var others = []string{"", " ", "in", "out", "x", "/", "\\", ".", ":", "(", ")", "==", "=>", "=<", "<>", "++", "+ ", " +", "not", "Min", "MAX", "iotas", "io", "#", "\n", "1", "_", "+/", "times", "plus", "\x00", "é"}

func TestP42Verb(t *testing.T) {
	check := func(s string, two bool, wanted api.Fn) {
		if f, is := parse.Verb(s, two); f != wanted || is != (wanted != 0) {
			t.Errorf("%q, %v: %v, %v; wanted %v", s, two, f, is, wanted)
		}
	}
	for s, f := range table {
		check(s, false, f[0])
		check(s, true, f[1])
	}
	for _, s := range append(others, strings.Repeat("+", 1<<20)) {
		check(s, false, 0)
		check(s, true, 0)
	}
}

func TestP42Name(t *testing.T) {
	word := regexp.MustCompile(`\A[a-zA-Z][a-zA-Z0-9]{0,15}\z`)
	texts := append([]string{"x", "X", "Z9", "a1b2", "iota1", "In", "OUT", "ins", "i", long16, long16 + "q", "x ", " x", "x\n", "1x", "_x", "x_", "x.y", "x#", "é", "xé", "x1", "max1", strings.Repeat("x", 1<<17)}, others...)
	for s := range table {
		texts = append(texts, s, s+"x", s+" ", strings.ToUpper(s))
	}
	r := rand.New(rand.NewSource(42))
	for range 20000 {
		var s []byte
		for range r.Intn(19) {
			s = append(s, "abkzABKZ0189"[r.Intn(12)])
			if r.Intn(25) == 0 {
				s[len(s)-1] = byte(r.Intn(256))
			}
		}
		texts = append(texts, string(s))
	}
	names := 0
	for _, s := range texts {
		_, is := table[s]
		wanted := word.MatchString(s) && !is && s != "in" && s != "out"
		if parse.Name(s) != wanted {
			t.Errorf("%.40q: %v", s, !wanted)
		}
		if wanted {
			names++
		}
	}
	if names < 1000 || names > len(texts)-1000 {
		t.Error(names, "names of", len(texts))
	}
}
