package show_test

import (
	"math/rand"
	"slices"
	"strconv"
	"strings"
	"testing"

	"windrow/api"
	"windrow/lex"
	"windrow/parse"
	"windrow/show"
)

func pick[T any](r *rand.Rand, l []T) T { return l[r.Intn(len(l))] }

func drawNumber(r *rand.Rand) int64 {
	return pick(r, []int64{0, 1, -1, 2, 7, -30, greatest, least, r.Int63() >> r.Intn(63), -r.Int63()})
}

var names = []string{"x", "y", "n", "iotas", "In", "X9", long16}

// fns are the functions of one, of two, and of two numbers.
func fns() (one, two, numbers []api.Fn) {
	for f := range api.Fn(255) {
		if ofOne[f] != "" {
			one = append(one, f)
		}
		if ofTwo[f] != "" {
			two = append(two, f)
		}
		if ofTwo[f] != "" && f <= api.Power {
			numbers = append(numbers, f)
		}
	}
	return one, two, numbers
}

// drawItems draws an expression.
func drawItems(r *rand.Rand, deep int) []api.Item {
	ones, twos, numbers := fns()
	how := 1 + r.Intn(7)
	if deep == 0 {
		how = 1 + r.Intn(2)
	}
	switch how {
	case api.INumbers:
		var l []int64
		for range 1 + r.Intn(3) {
			l = append(l, drawNumber(r))
		}
		return []api.Item{nums(l...)}
	case api.IName:
		return []api.Item{name(pick(r, names))}
	case api.IMonad:
		return append(drawItems(r, deep-1), one(pick(r, ones)))
	case api.IDyad:
		return slices.Concat(drawItems(r, deep-1), drawItems(r, deep-1), []api.Item{two(pick(r, twos))})
	case api.IOuter:
		return slices.Concat(drawItems(r, deep-1), drawItems(r, deep-1), []api.Item{outer(pick(r, numbers))})
	}
	return append(drawItems(r, deep-1), api.Item{How: how, Fn: pick(r, numbers)})
}

func drawProgram(r *rand.Rand, deep int) api.Program {
	var p api.Program
	for range r.Intn(4) {
		in := input(pick(r, names))
		for range r.Intn(5) {
			in.Sides = append(in.Sides, pick(r, []api.Side{dim(pick(r, names)), side(drawNumber(r))}))
		}
		p.Inputs = append(p.Inputs, in)
	}
	for range r.Intn(4) {
		p.Lines = append(p.Lines, line(pick(r, names), drawItems(r, r.Intn(deep))...))
	}
	p.Lines = append(p.Lines, line("", drawItems(r, r.Intn(deep))...))
	return p
}

func spelled(n int64) string { return strings.Replace(strconv.FormatInt(n, 10), "-", "_", 1) }

// worded is an item's tokens but for those of its values.
func worded(x api.Item) []string {
	switch x.How {
	case api.INumbers:
		var l []string
		for _, n := range x.Nums {
			l = append(l, spelled(n))
		}
		return l
	case api.IName:
		return []string{x.Name}
	case api.IMonad:
		return []string{ofOne[x.Fn]}
	case api.IDyad:
		return []string{ofTwo[x.Fn]}
	}
	return []string{ofTwo[x.Fn], map[int]string{api.IFold: "/", api.IScan: "\\", api.IOuter: "."}[x.How]}
}

// written works the tokens of the last value of items out, from its last item down, and tells the items ahead of it; around each expression stand as many brackets as extra tells. What may not be is not asked, but for values that there are not.
func written(items []api.Item, extra func() int) (tokens []string, rest []api.Item, ok bool) {
	if len(items) == 0 {
		return nil, nil, false
	}
	x, rest := items[len(items)-1], items[:len(items)-1]
	tokens = worded(x)
	if x.How != api.INumbers && x.How != api.IName {
		right, ahead, ok := written(rest, extra)
		if !ok {
			return nil, nil, false
		}
		tokens, rest = append(tokens, right...), ahead
	}
	if x.How == api.IDyad || x.How == api.IOuter {
		left, ahead, ok := operand(rest, extra)
		if !ok {
			return nil, nil, false
		}
		tokens, rest = append(left, tokens...), ahead
	}
	return bracketed(tokens, extra()), rest, true
}

// operand works out what stands on the left of a verb.
func operand(items []api.Item, extra func() int) (tokens []string, rest []api.Item, ok bool) {
	outside := 0
	tokens, rest, ok = written(items, func() int { outside = extra(); return outside })
	if ok && outside == 0 && items[len(items)-1].How > api.IName {
		tokens = bracketed(tokens, 1)
	}
	return tokens, rest, ok
}

func bracketed(tokens []string, n int) []string {
	return slices.Concat(slices.Repeat([]string{"("}, n), tokens, slices.Repeat([]string{")"}, n))
}

// source is a program's lines of tokens; false, if values are missing or left.
func source(p api.Program, extra func() int) ([][]string, bool) {
	var lines [][]string
	for _, in := range p.Inputs {
		l := []string{"in", in.Name}
		for _, s := range in.Sides {
			if s.Name == "" {
				s.Name = spelled(s.N)
			}
			l = append(l, s.Name)
		}
		lines = append(lines, l)
	}
	for i, l := range p.Lines {
		tokens, rest, ok := written(l.Items, extra)
		if !ok || len(rest) > 0 {
			return nil, false
		}
		head := []string{l.Name, ":"}
		if i == len(p.Lines)-1 {
			head = []string{"out"}
		}
		lines = append(lines, append(head, tokens...))
	}
	return lines, true
}

func never() int { return 0 }

// plain joins tokens as the chapter does.
func plain(lines [][]string) string {
	var text strings.Builder
	for _, l := range lines {
		s := strings.Join(l, " ")
		for _, mark := range []string{"/", "\\", ".", ":", ")"} {
			s = strings.ReplaceAll(s, " "+mark, mark)
		}
		text.WriteString(strings.ReplaceAll(s, "( ", "(") + "\n")
	}
	return text.String()
}

func alnum(c byte) bool {
	return c == '_' || '0' <= c && c <= '9' || 'a' <= c && c <= 'z' || 'A' <= c && c <= 'Z'
}

// free joins tokens anyhow: blanks, notes and lines that need not be, noughts ahead of numbers.
func free(r *rand.Rand, lines [][]string) string {
	var text []byte
	for _, l := range lines {
		for _, s := range l {
			if digits := strings.TrimLeft(s, "_"); r.Intn(6) == 0 && strings.Trim(digits, "0123456789") == "" && digits != "" {
				s = s[:len(s)-len(digits)] + "00" + digits
			}
			joins := len(text) > 0 && alnum(text[len(text)-1]) && alnum(s[0]) && s[0] != '_'
			if joins || r.Intn(3) == 0 {
				text = append(text, pick(r, []string{" ", "\t", "  \t "})...)
			}
			text = append(text, s...)
		}
		text = append(text, pick(r, []string{"\n", "\n", " \n\n", "# out (\n", "\n\t#\n \n"})...)
	}
	return string(text)
}

// TestP52Drawn: texts are those of a second working-out, and are read as the programs.
func TestP52Drawn(t *testing.T) {
	r := rand.New(rand.NewSource(52))
	for range 6000 {
		p := drawProgram(r, 6)
		lines, _ := source(p, never)
		if slices.ContainsFunc(lines, func(l []string) bool { return len(l) > 256 }) {
			checkWrong(t, p)
			continue
		}
		check(t, p, plain(lines))
		s, _ := show.Show(p)
		if q, f := parse.Parse(s); f != none || !same(p, q) {
			t.Fatalf("%v: %q, %v", p, s, f)
		}
	}
}

func clone(p api.Program) api.Program {
	q := api.Program{Inputs: slices.Clone(p.Inputs), Lines: slices.Clone(p.Lines)}
	for i := range q.Inputs {
		q.Inputs[i].Sides = slices.Clone(q.Inputs[i].Sides)
	}
	for i := range q.Lines {
		q.Lines[i].Items = slices.Clone(q.Lines[i].Items)
		for k := range q.Lines[i].Items {
			q.Lines[i].Items[k].Nums = slices.Clone(q.Lines[i].Items[k].Nums)
		}
	}
	return q
}

var anyNames = []string{"", "x", "y", "max", "in", "out", "1", "x y", "z:", long16 + "q", "a\nb"}

// spoilItem changes one field of an item.
func spoilItem(r *rand.Rand, x api.Item) api.Item {
	switch r.Intn(4) {
	case 0:
		x.How = r.Intn(10) - 1
	case 1:
		x.Fn = api.Fn(r.Intn(44))
	case 2:
		x.Name = pick(r, anyNames)
	case 3:
		x.Nums = [][]int64{nil, {}, {0}, {1, 2}}[r.Intn(4)]
	}
	return x
}

// spoil changes a program at one place; it may be one then, or none.
func spoil(r *rand.Rand, p api.Program) api.Program {
	p = clone(p)
	l := &p.Lines[r.Intn(len(p.Lines))]
	at := r.Intn(len(l.Items))
	switch r.Intn(10) {
	case 0:
		l.Name = pick(r, anyNames)
	case 1:
		l.Items = slices.Delete(l.Items, at, at+1)
	case 2:
		other := pick(r, p.Lines).Items
		l.Items = slices.Insert(l.Items, at, pick(r, other))
	case 3:
		other := r.Intn(len(l.Items))
		l.Items[at], l.Items[other] = l.Items[other], l.Items[at]
	case 4:
		l.Items = append(l.Items, pick(r, []api.Item{one(api.Rev), two(api.Plus), fold(api.Plus), name("x")}))
	case 5:
		in := input(pick(r, anyNames), api.Side{Name: pick(r, anyNames), N: int64(r.Intn(2))})
		p.Inputs = append(p.Inputs, in)
	case 6:
		p.Lines = append(p.Lines, line(pick(r, anyNames), nums(1)))
	default:
		l.Items[at] = spoilItem(r, l.Items[at])
	}
	return p
}

// may works out again whether a program may be: by whether it is read out of what it would be written as.
func may(p api.Program) (string, bool) {
	lines, ok := source(p, never)
	if !ok {
		return "", false
	}
	q, f := parse.Parse(plain(lines))
	return plain(lines), f == none && same(p, q)
}

// TestP51Second: whatever a program is, what is told of it is that of the second working-out; and what is unlike is shown unlike (P5.2).
func TestP51Second(t *testing.T) {
	r := rand.New(rand.NewSource(51))
	rights, wrongs := 0, 0
	for range 6000 {
		p := drawProgram(r, 4)
		text, right := may(p)
		if !right {
			t.Fatal(p)
		}
		for range 4 {
			q := spoil(r, p)
			s, right := may(q)
			if !right {
				checkWrong(t, q)
				wrongs++
				continue
			}
			check(t, q, s)
			if (s == text) != same(p, q) {
				t.Fatalf("%v, %v: %q", p, q, s)
			}
			rights++
		}
	}
	if rights < 3000 || wrongs < 3000 {
		t.Error(rights, wrongs)
	}
}

// TestP52Unlike: no two of all small expressions are shown alike.
func TestP52Unlike(t *testing.T) {
	pieces := []api.Item{nums(1), nums(1, 2), nums(2), nums(-1), name("x"), one(api.Minus), one(api.Not), two(api.Minus), two(api.Unlike), fold(api.Minus), scan(api.Minus), outer(api.Minus)}
	seen := map[string]bool{}
	count := 0
	var walk func(items []api.Item)
	walk = func(items []api.Item) {
		if s, e := show.Show(out(items...)); e == api.OK {
			if seen[s] {
				t.Errorf("%q twice", s)
			}
			seen[s] = true
			count++
		}
		if len(items) == 4 {
			return
		}
		for _, x := range pieces {
			walk(append(items[:len(items):len(items)], x))
		}
	}
	walk(nil)
	// So many expressions of one item, of two, of three and of four there are.
	if wanted := 5 + 5*4 + (5*16 + 25*3) + (5*64 + 25*3*4*3); count != wanted {
		t.Error(count, "shown; wanted", wanted)
	}
}

func count(t *testing.T, text string) int {
	t.Helper()
	tokens, f := lex.Lex(text)
	if f != none {
		t.Fatal(text, f)
	}
	return len(slices.DeleteFunc(tokens, func(x api.Token) bool { return x.Kind == api.TLine }))
}

// TestP53Read: what is read may be; its text is read as the same, has no more tokens, and is shown as itself.
func TestP53Read(t *testing.T) {
	r := rand.New(rand.NewSource(53))
	fewer, all := 0, 0
	for i := range 6000 {
		extra := func() int { return max(0, r.Intn(6)-4) + i%2*r.Intn(2) }
		lines, _ := source(drawProgram(r, 5), extra)
		text := free(r, lines)
		p, f := parse.Parse(text)
		if f != none {
			continue
		}
		s, e := show.Show(p)
		q, f := parse.Parse(s)
		if !show.Right(p) || e != api.OK || f != none || !same(p, q) {
			t.Fatalf("%q: %q, %v, %v", text, s, e, f)
		}
		if again, e := show.Show(q); again != s || e != api.OK {
			t.Fatalf("%q: %q, %v", s, again, e)
		}
		before, after := count(t, text), count(t, s)
		if after > before {
			t.Fatalf("%q: %q", text, s)
		}
		all++
		if after < before {
			fewer++
		}
	}
	if all < 3000 || fewer < 1000 || all-fewer < 200 {
		t.Error(all, fewer)
	}
}

// TestP53Limits: texts at a limit of layer 4.
func TestP53Limits(t *testing.T) {
	for _, s := range []string{
		"out " + strings.Repeat("1 ", 255), "x:" + strings.Repeat("1_1 ", 127) + "\nout x", "out " + strings.Repeat("-", 254) + "1",
		"out " + strings.Repeat("(", 32) + "1+1" + strings.Repeat(")+1", 32), "out " + strings.Repeat("(", 32) + "1" + strings.Repeat(")", 32),
		"out " + strings.Repeat("1+(", 32) + "1+1" + strings.Repeat(")", 32),
		"out " + strings.Repeat("(1)+", 63) + "1", strings.Repeat("in x 1 2 n 4\n", 63) + "out x", strings.Repeat("x:x\n", 63) + "out x",
	} {
		p, f := parse.Parse(s)
		if f != none {
			t.Fatalf("%q: %v", s, f)
		}
		checkLimit(t, p, true)
	}
	// Blanks are put where none were, so that what is read may have too long a text.
	tight := strings.Repeat("x:0"+strings.Repeat("_9223372036854775808", 253)+"\n", 12) + "out 0" + strings.Repeat("_9223372036854775808", 230)
	p, f := parse.Parse(tight)
	if s, e := show.Show(p); f != none || !show.Right(p) || s != "" || e != api.ErrLexLong {
		t.Error(f, len(tight), len(s), e)
	}
}
