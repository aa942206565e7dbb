package parse_test

import (
	"maps"
	"math/rand"
	"slices"
	"strconv"
	"strings"
	"testing"
	"unsafe"

	"windrow/api"
	"windrow/lex"
	"windrow/parse"
)

// second works a program out again, from layer 3's tokens: it goes down the chapter's grammar by calls, and leaves by a panic at the first fault.
type second struct {
	line []api.Token // its end with it
	open int
}

func parseAgain(text string) (p api.Program, f api.Fault) {
	tokens, f := lex.Lex(text)
	if f != none {
		return api.Program{}, f
	}
	defer func() {
		if x := recover(); x != nil {
			p, f = api.Program{}, x.(api.Fault)
		}
	}()
	ended, count := false, 0
	var s second
	for _, t := range append(tokens, api.Token{Kind: api.TLine, At: len(text)}) {
		s.line = append(s.line, t)
		if t.Kind != api.TLine {
			continue
		}
		if len(s.line) > 1 {
			count++
			s.check(count > 64, s.line[0], api.ErrParseMany)
			if len(s.line) > 257 {
				s.check(true, s.line[256], api.ErrParseMany)
			}
			s.check(ended, s.line[0], api.ErrParseLine)
			ended = s.read(&p)
		}
		s = second{}
	}
	s.check(!ended, api.Token{At: len(text)}, api.ErrParseWant)
	return p, none
}

func (s *second) check(wrong bool, t api.Token, e api.Errno) {
	if wrong {
		panic(fault(t.At, e))
	}
}

func (s *second) next() api.Token {
	t := s.line[0]
	if len(s.line) > 1 {
		s.line = s.line[1:]
	}
	return t
}

func isVerb(t api.Token) bool {
	_, is := table[t.Word]
	return is
}

func isName(t api.Token) bool {
	return t.Kind == api.TWord && !isVerb(t) && t.Word != "in" && t.Word != "out"
}

// read reads a line, and tells whether it is the last one.
func (s *second) read(p *api.Program) bool {
	first := s.next()
	if first.Word == "in" {
		s.check(len(p.Lines) > 0, first, api.ErrParseLine)
		s.check(s.line[0].Kind == api.TLine, s.line[0], api.ErrParseWant)
		s.check(!isName(s.line[0]), s.line[0], api.ErrParseWord)
		t := s.next()
		in := api.Input{Name: t.Word, At: t.At}
		for s.line[0].Kind != api.TLine {
			t := s.next()
			s.check(!isName(t) && t.Kind != api.TNumber, t, api.ErrParseWord)
			in.Sides = append(in.Sides, api.Side{Name: t.Word, N: t.N})
			s.check(len(in.Sides) > 4, t, api.ErrParseMany)
		}
		p.Inputs = append(p.Inputs, in)
		return false
	}
	s.check(first.Word != "out" && !isName(first), first, api.ErrParseLine)
	l := api.Line{At: first.At}
	if first.Word != "out" {
		l.Name = first.Word
		s.check(s.line[0].Word != ":", s.line[0], api.ErrParseWant)
		s.next()
	}
	l.Items = s.expression()
	s.check(s.line[0].Kind != api.TLine, s.line[0], api.ErrParseRest)
	p.Lines = append(p.Lines, l)
	return first.Word == "out"
}

func (s *second) expression() []api.Item {
	var left []api.Item
	t := s.next()
	switch {
	case isVerb(t):
		how := map[string]int{"/": api.IFold, "\\": api.IScan, ".": 0}
		return s.verb(t, nil, how, api.IMonad)
	case t.Kind == api.TNumber:
		left = []api.Item{nums(t.At, t.N)}
		for s.line[0].Kind == api.TNumber {
			left[0].Nums = append(left[0].Nums, s.next().N)
		}
	case isName(t):
		left = []api.Item{name(t.At, t.Word)}
	case t.Word == "(":
		s.check(s.open == 32, t, api.ErrParseNest)
		s.open++
		left = s.expression()
		s.open--
		s.check(s.line[0].Word != ")", s.line[0], api.ErrParseWant)
		s.next()
	default:
		s.check(t.Kind == api.TWord, t, api.ErrParseWord)
		s.check(true, t, api.ErrParseWant)
	}
	if s.line[0].Kind == api.TLine || s.line[0].Word == ")" {
		return left
	}
	t = s.next()
	s.check(!isVerb(t), t, api.ErrParseRest)
	how := map[string]int{"/": 0, "\\": 0, ".": api.IOuter}
	return s.verb(t, left, how, api.IDyad)
}

func (s *second) verb(t api.Token, left []api.Item, how map[string]int, plain int) []api.Item {
	item := verb(plain, t.At, table[t.Word][1])
	if plain == api.IMonad {
		item.Fn = table[t.Word][0]
	}
	if h, marked := how[s.line[0].Word]; marked {
		s.next()
		item = verb(h, t.At, table[t.Word][1])
		s.check(h == 0 || item.Fn > api.Power, t, api.ErrParseFn)
	}
	s.check(item.Fn == 0, t, api.ErrParseFn)
	return append(append(left, s.expression()...), item)
}

// tree is an expression as it is meant, whatever it is written like.
type tree struct {
	how         int
	word        string
	nums        []int64
	left, right *tree
}

// words are the table's, in order: of one, of two, and of two numbers.
func words() (one, two, numbers []string) {
	for _, s := range slices.Sorted(maps.Keys(table)) {
		if table[s][0] != 0 {
			one = append(one, s)
		}
		if table[s][1] != 0 {
			two = append(two, s)
		}
		if table[s][1] != 0 && table[s][1] <= api.Power {
			numbers = append(numbers, s)
		}
	}
	return one, two, numbers
}

var names = []string{"x", "y", "n", "iotas", "In", "X9", long16}

func pick(r *rand.Rand, l []string) string { return l[r.Intn(len(l))] }

func drawNumber(r *rand.Rand) int64 {
	return []int64{0, 1, -1, 2, 7, -30, greatest, least, r.Int63() >> r.Intn(63), -r.Int63()}[r.Intn(10)]
}

func drawTree(r *rand.Rand, deep int) *tree {
	one, two, numbers := words()
	how := 1 + r.Intn(7)
	if deep == 0 {
		how = 1 + r.Intn(2)
	}
	t := &tree{how: how}
	switch how {
	case api.INumbers:
		for range 1 + r.Intn(3) {
			t.nums = append(t.nums, drawNumber(r))
		}
		return t
	case api.IName:
		t.word = pick(r, names)
		return t
	case api.IMonad:
		t.word = pick(r, one)
	case api.IDyad:
		t.word = pick(r, two)
	default:
		t.word = pick(r, numbers)
	}
	t.right = drawTree(r, deep-1)
	if how == api.IDyad || how == api.IOuter {
		t.left = drawTree(r, deep-1)
	}
	return t
}

// writer writes a program, and keeps what it is: its places are those at which it wrote.
type writer struct {
	r    *rand.Rand
	text []byte
	p    api.Program
	// Where expressions stand in the text, each from a place to another one, and with how many tokens.
	spans [][3]int
	// How many tokens the line has, how many brackets are open, and how many were, at most.
	tokens, open, most int
	// Whether brackets, blanks and lines are written that need not be.
	free bool
}

func alnum(c byte) bool {
	return c == '_' || '0' <= c && c <= '9' || 'a' <= c && c <= 'z' || 'A' <= c && c <= 'Z'
}

// put writes a token, and tells its place.
func (w *writer) put(s string) int {
	n := len(w.text)
	joins := n > 0 && alnum(w.text[n-1]) && alnum(s[0])
	switch {
	case w.free && w.r.Intn(4) == 0:
		w.text = append(w.text, pick(w.r, []string{" ", "\t", "  ", " \t "})...)
	case joins || !w.free:
		w.text = append(w.text, ' ')
	}
	w.tokens++
	w.text = append(w.text, s...)
	return len(w.text) - len(s)
}

// end writes a line's end, and what says nothing.
func (w *writer) end() {
	for w.free && w.r.Intn(4) == 0 {
		w.text = append(w.text, pick(w.r, []string{"#", " # (", "\n", "# in x\n", "#\"\xff\n ", "\t"})...)
	}
	w.text = append(w.text, '\n')
	w.tokens = 0
}

func (w *writer) number(n int64) int {
	s := strconv.FormatInt(n, 10)
	if n < 0 {
		s = "_" + s[1:]
	}
	return w.put(s)
}

// bracketed writes something in brackets.
func (w *writer) bracketed(do func()) {
	w.put("(")
	w.open++
	w.most = max(w.most, w.open)
	do()
	w.open--
	w.put(")")
}

// write writes an expression; as many brackets around it as may be.
func (w *writer) write(t *tree, l *api.Line) {
	from, tokens := len(w.text), w.tokens
	if w.free && w.r.Intn(4) == 0 {
		w.bracketed(func() { w.write(t, l) })
	} else {
		w.bare(t, l)
	}
	w.spans = append(w.spans, [3]int{from, len(w.text), w.tokens - tokens})
}

func (w *writer) bare(t *tree, l *api.Line) {
	item := api.Item{How: t.how}
	switch t.how {
	case api.INumbers:
		item.Nums = t.nums
		for i, n := range t.nums {
			if at := w.number(n); i == 0 {
				item.At = at
			}
		}
	case api.IName:
		item.Name = t.word
		item.At = w.put(t.word)
	default:
		if t.left != nil && (t.left.how > api.IName) {
			w.bracketed(func() { w.write(t.left, l) })
		} else if t.left != nil {
			w.write(t.left, l)
		}
		item.At = w.put(t.word)
		item.Fn = table[t.word][1]
		switch t.how {
		case api.IMonad:
			item.Fn = table[t.word][0]
		case api.IFold:
			w.put("/")
		case api.IScan:
			w.put("\\")
		case api.IOuter:
			w.put(".")
		}
		w.write(t.right, l)
	}
	l.Items = append(l.Items, item)
}

// draft is a program as it is meant.
type draft struct {
	inputs []api.Input
	names  []string
	trees  []*tree
}

func drawDraft(r *rand.Rand) draft {
	var d draft
	for range r.Intn(4) {
		in := api.Input{Name: pick(r, names)}
		for range r.Intn(5) {
			if r.Intn(2) == 0 {
				in.Sides = append(in.Sides, dim(pick(r, names)))
			} else {
				in.Sides = append(in.Sides, side(drawNumber(r)))
			}
		}
		d.inputs = append(d.inputs, in)
	}
	for range r.Intn(4) {
		d.names = append(d.names, pick(r, names))
	}
	for range len(d.names) + 1 {
		d.trees = append(d.trees, drawTree(r, r.Intn(5)))
	}
	return d
}

// writeDraft writes a program; false, if it goes beyond the limits.
func writeDraft(r *rand.Rand, d draft, free bool) (*writer, bool) {
	w := &writer{r: r, free: free}
	for _, in := range d.inputs {
		w.put("in")
		in.At = w.put(in.Name)
		for _, s := range in.Sides {
			if s.Name != "" {
				w.put(s.Name)
			} else {
				w.number(s.N)
			}
		}
		w.p.Inputs = append(w.p.Inputs, in)
		w.end()
	}
	for i, t := range d.trees {
		var l api.Line
		if i < len(d.names) {
			l.Name = d.names[i]
			l.At = w.put(l.Name)
			w.put(":")
		} else {
			l.At = w.put("out")
		}
		w.write(t, &l)
		if w.tokens > 256 || w.most > 32 {
			return nil, false
		}
		w.p.Lines = append(w.p.Lines, l)
		w.end()
	}
	return w, true
}

// TestP41Drawn: programs are read as they are meant, with their places.
func TestP41Drawn(t *testing.T) {
	r := rand.New(rand.NewSource(41))
	for i := range 4000 {
		w, fits := writeDraft(r, drawDraft(r), i%2 == 0)
		if !fits {
			continue
		}
		p, f := parse.Parse(string(w.text))
		if f != none || !same(p, w.p) {
			t.Fatalf("%q: %v, %v; wanted %v", w.text, p, f, w.p)
		}
	}
}

// spoil takes away, changes or adds some tokens of a text.
func spoil(r *rand.Rand, text string) string {
	tokens := strings.FieldsFunc(text, func(c rune) bool { return c == ' ' })
	others := []string{"(", ")", "(", ")", "/", "\\", ".", ":", "\n", "in", "out", "1", "x", "+", "~", "iota", "=", "rho", "_", "?"}
	for range r.Intn(4) {
		i := r.Intn(len(tokens) + 1)
		switch r.Intn(4) {
		case 0:
			tokens = slices.Insert(tokens, i, pick(r, others))
		case 1:
			tokens = slices.Delete(tokens, max(i-1, 0), i)
		case 2:
			tokens = slices.Replace(tokens, max(i-1, 0), i, pick(r, others))
		case 3:
			tokens = append(tokens[:i:i], tokens[r.Intn(len(tokens)+1):]...)
		}
	}
	return strings.Join(tokens, " ")
}

// TestP41Second: whatever a text is, the program or the fault is that of a second working-out; P4.3 and P4.5 of all that is read.
func TestP41Second(t *testing.T) {
	r := rand.New(rand.NewSource(411))
	codes := map[api.Errno]int{}
	for range 30000 {
		d := drawDraft(r)
		w, fits := writeDraft(r, d, false)
		if !fits {
			continue
		}
		text := spoil(r, strings.ReplaceAll(string(w.text), "\n", " \n "))
		p, f := parse.Parse(text)
		q, g := parseAgain(text)
		if f != g || !same(p, q) {
			t.Fatalf("%q: %v, %v; wanted %v, %v", text, p, f, q, g)
		}
		if f.At < 0 || f.At > len(text) || f != none && !empty(p) {
			t.Fatalf("%q: %v, %v", text, p, f)
		}
		checkItems(t, text, p)
		codes[f.Code]++
	}
	for _, e := range []api.Errno{api.OK, api.ErrLexByte, api.ErrParseLine, api.ErrParseWord, api.ErrParseWant, api.ErrParseFn, api.ErrParseMany, api.ErrParseRest} {
		if codes[e] < 50 {
			t.Error(e, "only", codes[e], "times")
		}
	}
}

// TestP41Soup: any tokens at all.
func TestP41Soup(t *testing.T) {
	r := rand.New(rand.NewSource(412))
	soup := slices.Concat(slices.Sorted(maps.Keys(table)), names, []string{"in", "out", "(", "(", "(", ")", ")", ")", ":", "/", "\\", ".", "1", "2", "\n"})
	for range 60000 {
		text := pick(r, []string{"", "out ", "out ", "x: ", "in x "})
		for range r.Intn(14) {
			text += pick(r, soup) + " "
		}
		p, f := parse.Parse(text)
		q, g := parseAgain(text)
		if f != g || !same(p, q) {
			t.Fatalf("%q: %v, %v; wanted %v, %v", text, p, f, q, g)
		}
		checkItems(t, text, p)
	}
}

// checkItems: there are always enough values, and one is left; each item has what is its own alone.
func checkItems(t *testing.T, text string, p api.Program) {
	t.Helper()
	for _, l := range p.Lines {
		values := 0
		for _, x := range l.Items {
			wanted := api.Item{How: x.How, At: x.At, Fn: x.Fn}
			takes, right := 1, false
			switch x.How {
			case api.INumbers:
				takes, right = 0, x.Fn == 0 && len(x.Nums) > 0
				wanted.Nums = x.Nums
			case api.IName:
				takes, right = 0, x.Fn == 0 && parse.Name(x.Name)
				wanted.Name = x.Name
			case api.IMonad:
				right = slices.Contains([]api.Fn{api.Plus, api.Minus, api.Times, api.Divide, api.Residue, api.Least, api.Most, api.Not, api.Iota, api.Shape, api.Ravel, api.Rev, api.Turn}, x.Fn)
			case api.IDyad:
				takes, right = 2, x.Fn >= api.Plus && x.Fn <= api.Power && x.Fn != api.Not || x.Fn >= api.Rho && x.Fn <= api.Cat
			case api.IFold, api.IScan:
				right = x.Fn >= api.Plus && x.Fn <= api.Power && x.Fn != api.Not
			case api.IOuter:
				takes, right = 2, x.Fn >= api.Plus && x.Fn <= api.Power && x.Fn != api.Not
			}
			if !right || values < takes || x.Name != wanted.Name || !slices.Equal(x.Nums, wanted.Nums) {
				t.Fatalf("%q: item %v behind %d values", text, x, values)
			}
			values += 1 - takes
		}
		if values != 1 {
			t.Fatalf("%q: %d values are left of %v", text, values, l.Items)
		}
	}
}

func TestP43Items(t *testing.T) {
	for _, x := range expressions {
		p, f := parse.Parse("out " + x.text)
		if f != none {
			t.Error(x.text, f)
		}
		checkItems(t, x.text, p)
	}
}

// TestP44Apart: empty lines, blanks, notes and brackets change nothing but places.
func TestP44Apart(t *testing.T) {
	r := rand.New(rand.NewSource(44))
	other := 0
	for range 3000 {
		d := drawDraft(r)
		a, fits := writeDraft(r, d, false)
		b, fitsToo := writeDraft(r, d, true)
		if !fits || !fitsToo {
			continue
		}
		p, f := parse.Parse(string(a.text))
		q, g := parse.Parse(string(b.text))
		if f != none || g != none || !same(apart(p), apart(q)) {
			t.Fatalf("%q: %v, %v; %q: %v, %v", a.text, p, f, b.text, q, g)
		}
		if !same(p, q) {
			other++
		}
	}
	if other < 1000 {
		t.Error("only", other, "written otherwise")
	}
}

// TestP44Faults: a fault stays the same, where it stands elsewhere.
func TestP44Faults(t *testing.T) {
	for _, x := range faults {
		if x.f.Code == api.ErrLexLong || x.f.Code == api.OK || len(x.text) > 1000 {
			continue
		}
		ahead := " \n# in x +\n\t\n"
		f := x.f
		f.At += len(ahead)
		if _, g := parse.Parse(ahead + x.text); g != f {
			t.Errorf("%q: %v; wanted %v", ahead+x.text, g, f)
		}
	}
}

// TestP45Places: any bytes at all.
func TestP45Places(t *testing.T) {
	r := rand.New(rand.NewSource(45))
	for range 30000 {
		const bytes = "ioutnx1 +~()=<>/\\.:\n#_?\x00\xff"
		text := []byte(pick(r, []string{"", "out x", "x: 1 + (2)\nout x"}))
		for range r.Intn(12) {
			text = slices.Insert(text, r.Intn(len(text)+1), bytes[r.Intn(len(bytes))])
		}
		p, f := parse.Parse(string(text))
		q, g := parseAgain(string(text))
		if f != g || !same(p, q) || f.At < 0 || f.At > len(text) {
			t.Fatalf("%q: %v, %v; wanted %v, %v", text, p, f, q, g)
		}
	}
}

// TestP45Instead: one expression in another's place.
func TestP45Instead(t *testing.T) {
	r := rand.New(rand.NewSource(450))
	for i := range 3000 {
		w, fits := writeDraft(r, drawDraft(r), i%2 == 0)
		if !fits || w.most > 10 {
			continue
		}
		a, b := w.spans[r.Intn(len(w.spans))], w.spans[r.Intn(len(w.spans))]
		if a[2] > 60 || b[2] > 60 {
			continue
		}
		text := string(w.text[:a[0]]) + " (" + string(w.text[b[0]:b[1]]) + ") " + string(w.text[a[1]:])
		if _, f := parse.Parse(text); f != none && f.Code != api.ErrParseMany {
			t.Fatalf("%q: %v; %q", text, f, w.text)
		}
	}
}

// TestR4Kept: what is answered is new memory; no name is a piece of the text or of another name, and no list another one's.
func TestR4Kept(t *testing.T) {
	text := "in x x n 3\nx: 1 2 + x + 1 2\nx: x\nout x + 1 2 cat x"
	one, f := parse.Parse(text)
	if f != none {
		t.Fatal(f)
	}
	from := uintptr(unsafe.Pointer(unsafe.StringData(text)))
	seen := map[uintptr]bool{}
	check := func(s string) {
		at := uintptr(unsafe.Pointer(unsafe.StringData(s)))
		if s != "" && (at >= from && at < from+uintptr(len(text)) || seen[at]) {
			t.Errorf("%s is shared", s)
		}
		seen[at] = s != ""
	}
	for _, p := range []api.Program{one, first(parse.Parse(text))} {
		for _, in := range p.Inputs {
			check(in.Name)
			for _, s := range in.Sides {
				check(s.Name)
			}
		}
		for _, l := range p.Lines {
			check(l.Name)
			for _, x := range l.Items {
				check(x.Name)
			}
		}
	}
	wanted, _ := parse.Parse(text)
	for _, in := range one.Inputs {
		clear(in.Sides[:cap(in.Sides)])
	}
	for _, l := range one.Lines {
		for _, x := range l.Items[:cap(l.Items)] {
			clear(x.Nums[:cap(x.Nums)])
		}
		clear(l.Items[:cap(l.Items)])
	}
	if again, f := parse.Parse(text); f != none || !same(again, wanted) {
		t.Error(again, f)
	}
}

func first(p api.Program, _ api.Fault) api.Program { return p }

// TestR5Lists: no list of an answer reaches into another one, its spare room neither.
func TestR5Lists(t *testing.T) {
	r := rand.New(rand.NewSource(5))
	for range 300 {
		w, fits := writeDraft(r, drawDraft(r), false)
		if !fits {
			continue
		}
		p, _ := parse.Parse(string(w.text))
		for i := range p.Inputs {
			p.Inputs[i].Sides = append(p.Inputs[i].Sides, dim("q"))
		}
		for i := range p.Lines {
			for k := range p.Lines[i].Items {
				p.Lines[i].Items[k].Nums = append(p.Lines[i].Items[k].Nums, 9)
			}
			p.Lines[i].Items = append(p.Lines[i].Items, name(0, "q"))
		}
		for i := range p.Inputs {
			p.Inputs[i].Sides = p.Inputs[i].Sides[:len(p.Inputs[i].Sides)-1]
		}
		for i := range p.Lines {
			l := p.Lines[i].Items[:len(p.Lines[i].Items)-1]
			for k := range l {
				l[k].Nums = l[k].Nums[:len(l[k].Nums)-1]
			}
			p.Lines[i].Items = l
		}
		if !same(p, w.p) {
			t.Fatalf("%q: %v; wanted %v", w.text, p, w.p)
		}
	}
}
