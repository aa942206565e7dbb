package lex_test

import (
	"math/big"
	"math/rand"
	"regexp"
	"slices"
	"strconv"
	"strings"
	"testing"
	"unsafe"

	"windrow/api"
	"windrow/lex"
)

func word(at int, s string) api.Token { return api.Token{Kind: api.TWord, At: at, Word: s} }

func sign(at int, s string) api.Token { return api.Token{Kind: api.TSign, At: at, Word: s} }

func number(at int, n int64) api.Token { return api.Token{Kind: api.TNumber, At: at, N: n} }

func line(at int) api.Token { return api.Token{Kind: api.TLine, At: at} }

func fault(at int, e api.Errno) api.Fault { return api.Fault{At: at, Code: e} }

var none api.Fault

const (
	greatest = 1<<63 - 1
	least    = -1 << 63
	long16   = "abcdefghijklmnop"
)

// signs are all there are.
var signs = []string{"+", "-", "*", "%", "|", "=", "~", "<", "<=", ">", ">=", "/", "\\", ".", ":", "(", ")"}

// texts are read as tokens, or have a fault.
var texts = []struct {
	text   string
	tokens []api.Token
	f      api.Fault
}{
	{"", nil, none},
	{" \t \t", nil, none},
	{"#", nil, none},
	{"# a note\x00\xff\" _ # another", nil, none},

	{"x: 2+iota n # rest", []api.Token{word(0, "x"), sign(1, ":"), number(3, 2), sign(4, "+"), word(5, "iota"), word(10, "n")}, none},
	{"<= <==", []api.Token{sign(0, "<="), sign(3, "<="), sign(5, "=")}, none},
	{">= >==", []api.Token{sign(0, ">="), sign(3, ">="), sign(5, "=")}, none},
	{"_007a", []api.Token{number(0, -7), word(4, "a")}, none},
	{"_9223372036854775808", []api.Token{number(0, least)}, none},
	{"_9223372036854775809", nil, fault(0, api.ErrLexNumber)},
	{"a _b", nil, fault(2, api.ErrLexByte)},
	{"\"", nil, fault(0, api.ErrLexByte)},
	{" abcdefghijklmnopq", nil, fault(1, api.ErrLexName)},

	{"<", []api.Token{sign(0, "<")}, none},
	{">", []api.Token{sign(0, ">")}, none},
	{"< =", []api.Token{sign(0, "<"), sign(2, "=")}, none},
	{"<\n=", []api.Token{sign(0, "<"), line(1), sign(2, "=")}, none},
	{"<>=<", []api.Token{sign(0, "<"), sign(1, ">="), sign(3, "<")}, none},
	{"=<=", []api.Token{sign(0, "="), sign(1, "<=")}, none},
	{"=>", []api.Token{sign(0, "="), sign(1, ">")}, none},
	{"~=", []api.Token{sign(0, "~"), sign(1, "=")}, none},
	{"()+-*%|=~/\\.:", []api.Token{sign(0, "("), sign(1, ")"), sign(2, "+"), sign(3, "-"), sign(4, "*"), sign(5, "%"), sign(6, "|"), sign(7, "="), sign(8, "~"), sign(9, "/"), sign(10, "\\"), sign(11, "."), sign(12, ":")}, none},

	{"a", []api.Token{word(0, "a")}, none},
	{"z A Z", []api.Token{word(0, "z"), word(2, "A"), word(4, "Z")}, none},
	{"a0z9A", []api.Token{word(0, "a0z9A")}, none},
	{long16, []api.Token{word(0, long16)}, none},
	{long16 + "+" + long16, []api.Token{word(0, long16), sign(16, "+"), word(17, long16)}, none},
	{long16 + "#q", []api.Token{word(0, long16)}, none},
	{"1" + long16, []api.Token{number(0, 1), word(1, long16)}, none},
	{long16 + "1", nil, fault(0, api.ErrLexName)},
	{"a234567890123456", []api.Token{word(0, "a234567890123456")}, none},
	{"a2345678901234567", nil, fault(0, api.ErrLexName)},
	{strings.Repeat("a", api.MaxText), nil, fault(0, api.ErrLexName)},

	{"0", []api.Token{number(0, 0)}, none},
	{"00", []api.Token{number(0, 0)}, none},
	{"_0", []api.Token{number(0, 0)}, none},
	{"_000", []api.Token{number(0, 0)}, none},
	{"1_2", []api.Token{number(0, 1), number(1, -2)}, none},
	{"a_1", []api.Token{word(0, "a"), number(1, -1)}, none},
	{"-_1", []api.Token{sign(0, "-"), number(1, -1)}, none},
	{"-1", []api.Token{sign(0, "-"), number(1, 1)}, none},
	{"+1.5e3", []api.Token{sign(0, "+"), number(1, 1), sign(2, "."), number(3, 5), word(4, "e3")}, none},
	{"0x10", []api.Token{number(0, 0), word(1, "x10")}, none},
	{"9223372036854775807", []api.Token{number(0, greatest)}, none},
	{"9223372036854775808", nil, fault(0, api.ErrLexNumber)},
	{"_9223372036854775807", []api.Token{number(0, least+1)}, none},
	{"18446744073709551616", nil, fault(0, api.ErrLexNumber)},
	{"_18446744073709551617", nil, fault(0, api.ErrLexNumber)},
	{"0009223372036854775807", []api.Token{number(0, greatest)}, none},
	{"_0009223372036854775808", []api.Token{number(0, least)}, none},
	{"_0009223372036854775809", nil, fault(0, api.ErrLexNumber)},
	{strings.Repeat("0", api.MaxText), []api.Token{number(0, 0)}, none},
	{"_" + strings.Repeat("0", api.MaxText-2) + "3", []api.Token{number(0, -3)}, none},
	{strings.Repeat("1", api.MaxText), nil, fault(0, api.ErrLexNumber)},

	{"\n", []api.Token{line(0)}, none},
	{"\n\n a\n", []api.Token{line(0), line(1), word(3, "a"), line(4)}, none},
	{"a#b\n#\n#c", []api.Token{word(0, "a"), line(3), line(5)}, none},
	{"a # b # c\nd", []api.Token{word(0, "a"), line(9), word(10, "d")}, none},
	{"#\r\nd", []api.Token{line(2), word(3, "d")}, none},

	{"_", nil, fault(0, api.ErrLexByte)},
	{"a _", nil, fault(2, api.ErrLexByte)},
	{"__1", nil, fault(0, api.ErrLexByte)},
	{"1__1", nil, fault(1, api.ErrLexByte)},
	{"_ 1", nil, fault(0, api.ErrLexByte)},
	{"_\n", nil, fault(0, api.ErrLexByte)},
	{"_#", nil, fault(0, api.ErrLexByte)},
	{"_-1", nil, fault(0, api.ErrLexByte)},
	{"a\r\n", nil, fault(1, api.ErrLexByte)},
	{"a\v", nil, fault(1, api.ErrLexByte)},
	{"a\f", nil, fault(1, api.ErrLexByte)},
	{"\x00", nil, fault(0, api.ErrLexByte)},
	{"aé", nil, fault(1, api.ErrLexByte)},
	{"\u00a0", nil, fault(0, api.ErrLexByte)},
	{"1٣", nil, fault(1, api.ErrLexByte)},
	{"a!b", nil, fault(1, api.ErrLexByte)},

	{"a ! " + long16 + "q 9223372036854775808", nil, fault(2, api.ErrLexByte)},
	{"a " + long16 + "q ! 9223372036854775808", nil, fault(2, api.ErrLexName)},
	{"a 9223372036854775808 ! " + long16 + "q", nil, fault(2, api.ErrLexNumber)},
	{long16 + "q!", nil, fault(0, api.ErrLexName)},
	{"9223372036854775808!", nil, fault(0, api.ErrLexNumber)},

	{strings.Repeat(" ", api.MaxText), nil, none},
	{strings.Repeat(" ", api.MaxText-1) + "a", []api.Token{word(api.MaxText-1, "a")}, none},
	{strings.Repeat(" ", api.MaxText-1) + "!", nil, fault(api.MaxText-1, api.ErrLexByte)},
	{strings.Repeat(" ", api.MaxText+1), nil, fault(0, api.ErrLexLong)},
	{strings.Repeat("!", api.MaxText+1), nil, fault(0, api.ErrLexLong)},
	{"!" + strings.Repeat(" ", api.MaxText), nil, fault(0, api.ErrLexLong)},
	{"a #" + strings.Repeat("é", api.MaxText), nil, fault(0, api.ErrLexLong)},
	{strings.Repeat("0", api.MaxText+1), nil, fault(0, api.ErrLexLong)},
}

func TestP31Lex(t *testing.T) {
	for _, x := range texts {
		l, f := lex.Lex(x.text)
		if !slices.Equal(l, x.tokens) || f != x.f {
			t.Errorf("%.40q: %v, %v; wanted %v, %v", x.text, l, f, x.tokens, x.f)
		}
	}
}

// TestP31Byte: each byte, alone and between two words.
func TestP31Byte(t *testing.T) {
	for b := range 256 {
		c := string([]byte{byte(b)})
		if l, f := lex.Lex(c); !same(l, f, c) {
			t.Errorf("%q: %v, %v", c, l, f)
		}
		if l, f := lex.Lex("a" + c + "b"); !same(l, f, "a"+c+"b") {
			t.Errorf("a%qb: %v, %v", c, l, f)
		}
	}
}

// pattern is what a text begins with: blanks or a note, a word, a number, a sign, a line's end.
var pattern = regexp.MustCompile(`^(?:([ \t]|#[^\n]*)|([a-zA-Z][a-zA-Z0-9]*)|(_?[0-9]+)|(<=|>=|[-+*%|=~<>/\\.:()])|(\n))`)

// bytewise makes of each byte a character of its own, so that the pattern goes by bytes.
func bytewise(text string) string {
	var r []rune
	for i := range len(text) {
		r = append(r, rune(text[i]))
	}
	return string(r)
}

// again is a second working-out of Lex, by patterns and numbers without bounds.
func again(text string) ([]api.Token, api.Fault) {
	if len(text) > api.MaxText {
		return nil, fault(0, api.ErrLexLong)
	}
	var l []api.Token
	for at := 0; at < len(text); {
		m := pattern.FindStringSubmatch(bytewise(text[at:]))
		switch {
		case m == nil:
			return nil, fault(at, api.ErrLexByte)
		case len(m[2]) > api.MaxName:
			return nil, fault(at, api.ErrLexName)
		case m[2] != "":
			l = append(l, word(at, m[2]))
		case m[3] != "":
			n, _ := new(big.Int).SetString(strings.Replace(m[3], "_", "-", 1), 10)
			if !n.IsInt64() {
				return nil, fault(at, api.ErrLexNumber)
			}
			l = append(l, number(at, n.Int64()))
		case m[4] != "":
			l = append(l, sign(at, m[4]))
		case m[5] != "":
			l = append(l, line(at))
		}
		at += len([]rune(m[0]))
	}
	return l, none
}

func same(l []api.Token, f api.Fault, text string) bool {
	w, g := again(text)
	return slices.Equal(l, w) && f == g
}

// pieces are what drawn texts are made of.
var pieces = append([]string{"a", "Zz9", "iota", "x1", long16, "0", "7", "007", "_1", "_", "_00", "922337203685477580", "9223372036854775807", "8", "\n", " ", "\t", "  ", "# b\n", "#", "=", "!", "é", "\xff", "\r"}, signs...)

// drawn is a text of up to so many pieces, drawn by r; the kinder it is, the less it has of what begins nothing.
func drawn(r *rand.Rand, most int, kind bool) string {
	var b strings.Builder
	for range r.Intn(most + 1) {
		p := pieces[r.Intn(len(pieces))]
		if kind {
			if _, f := lex.Lex(p); f != none {
				continue
			}
			b.WriteString(" ")
		}
		b.WriteString(p)
	}
	return b.String()
}

func TestP31Drawn(t *testing.T) {
	r := rand.New(rand.NewSource(31))
	faults := map[api.Errno]int{}
	for i := range 20000 {
		text := drawn(r, 12, i%2 == 0)
		l, f := lex.Lex(text)
		if !same(l, f, text) {
			t.Fatalf("%q: %v, %v", text, l, f)
		}
		faults[f.Code]++
	}
	for _, e := range []api.Errno{api.OK, api.ErrLexByte, api.ErrLexNumber, api.ErrLexName} {
		if faults[e] < 100 {
			t.Errorf("error %d was drawn only %d times", e, faults[e])
		}
	}
}

// TestP31Short: all texts of up to four bytes, of bytes that stand for the others of their kind.
func TestP31Short(t *testing.T) {
	alphabet := "a0_<=# \n!-"
	var from func(text string)
	from = func(text string) {
		if l, f := lex.Lex(text); !same(l, f, text) {
			t.Fatalf("%q: %v, %v", text, l, f)
		}
		if len(text) < 4 {
			for i := range len(alphabet) {
				from(text + alphabet[i:i+1])
			}
		}
	}
	from("")
}

// TestP31Own: what is answered is new memory, the words' texts too.
func TestP31Own(t *testing.T) {
	text := strings.Clone("ab: 2 + cd <= e\nab (")
	from := uintptr(unsafe.Pointer(unsafe.StringData(text)))
	l, _ := lex.Lex(text)
	m, _ := lex.Lex(text)
	want := slices.Clone(m)
	for i := range l {
		if l[i].Word != "" {
			p := uintptr(unsafe.Pointer(unsafe.StringData(l[i].Word)))
			if from <= p && p < from+uintptr(len(text)) {
				t.Errorf("the word %q is a piece of the text", l[i].Word)
			}
		}
		l[i] = api.Token{}
	}
	_ = append(l, word(1, "z"))
	if !slices.Equal(m, want) {
		t.Errorf("two answers share memory: %v", m)
	}
}

// spelled are tokens that have a text.
var spelled = []struct {
	t    api.Token
	text string
}{
	{word(9, "a1"), "a1"},
	{word(-1, "A"), "A"},
	{word(0, "in"), "in"},
	{word(0, long16), long16},
	{word(0, "a234567890123456"), "a234567890123456"},
	{number(0, 0), "0"},
	{number(4, 7), "7"},
	{number(0, 10), "10"},
	{number(-5, -7), "_7"},
	{number(0, -100), "_100"},
	{number(0, greatest), "9223372036854775807"},
	{number(0, least), "_9223372036854775808"},
	{line(0), "\n"},
	{line(3), "\n"},
	{line(least), "\n"},
}

func TestP32Spell(t *testing.T) {
	for _, x := range spelled {
		if s, is := lex.Spell(x.t); s != x.text || !is {
			t.Errorf("%v: %q, %v; wanted %q", x.t, s, is, x.text)
		}
	}
	for _, w := range signs {
		if s, is := lex.Spell(sign(7, w)); s != w || !is {
			t.Errorf("the sign %s: %q, %v", w, s, is)
		}
	}
}

func TestP32SpellNone(t *testing.T) {
	for _, x := range []api.Token{
		{},
		{At: 3},
		{Word: "a"},
		{N: 1},
		{Kind: 5},
		{Kind: 5, Word: "a"},
		{Kind: 5, N: 1},
		{Kind: -1, Word: "a"},
		{Kind: least, Word: "+"},
		{Kind: greatest, Word: "\n"},

		word(0, ""),
		word(0, "1a"),
		word(0, "1"),
		word(0, "_1"),
		word(0, long16+"q"),
		word(0, "a b"),
		word(0, "a "),
		word(0, " a"),
		word(0, "\ta"),
		word(0, "a\n"),
		word(0, "\n"),
		word(0, "a#"),
		word(0, "a_1"),
		word(0, "a+"),
		word(0, "+"),
		word(0, "é"),
		word(0, "aé"),
		word(0, "a\x00"),
		word(0, strings.Repeat("a", api.MaxText+1)),
		word(0, "a"+strings.Repeat(" ", api.MaxText+1)),
		{Kind: api.TWord, Word: "a", N: 1},
		{Kind: api.TWord, N: 1},

		sign(0, ""),
		sign(0, "#"),
		sign(0, "=="),
		sign(0, "=<"),
		sign(0, "< ="),
		sign(0, "<==>"),
		sign(0, "<= "),
		sign(0, " <="),
		sign(0, "+#"),
		sign(0, "a"),
		sign(0, "1"),
		sign(0, "_"),
		sign(0, "\n"),
		sign(0, " "),
		sign(0, "!"),
		sign(0, "\xff"),
		{Kind: api.TSign, Word: "+", N: -1},

		{Kind: api.TNumber, Word: "1", N: 1},
		{Kind: api.TNumber, Word: "1"},
		{Kind: api.TNumber, Word: " ", N: 1},
		{Kind: api.TLine, N: 1},
		{Kind: api.TLine, Word: "\n"},
		{Kind: api.TLine, Word: "a"},
	} {
		if s, is := lex.Spell(x); s != "" || is {
			t.Errorf("%v: %q, %v", x, s, is)
		}
	}
}

// TestP32Shortest: a text is spelled as it is read, and no shorter text is read so.
func TestP32Shortest(t *testing.T) {
	shortest := map[api.Token]string{}
	alphabet := "az09_<=+\n# "
	texts := []string{""}
	for range 4 {
		var longer []string
		for _, s := range texts {
			for i := range len(alphabet) {
				longer = append(longer, s+alphabet[i:i+1])
			}
		}
		for _, s := range longer {
			l, f := again(s)
			if f != none || len(l) != 1 {
				continue
			}
			l[0].At = 0
			if _, has := shortest[l[0]]; !has {
				shortest[l[0]] = s
			}
		}
		texts = longer
	}
	for x, s := range shortest {
		if x.Kind == api.TLine {
			s = "\n"
		}
		if got, is := lex.Spell(x); got != s || !is {
			t.Errorf("%v: %q, %v; wanted %q", x, got, is, s)
		}
	}
}

// TestP32Own: a spelled word is not the token's own text.
func TestP32Own(t *testing.T) {
	for _, w := range []string{"iota", "<=", "a"} {
		x := word(0, strings.Clone(w))
		if w == "<=" {
			x.Kind = api.TSign
		}
		if s, _ := lex.Spell(x); unsafe.StringData(s) == unsafe.StringData(x.Word) {
			t.Errorf("the text of %q is the token's own", w)
		}
	}
}

// bare are the tokens without their places.
func bare(l []api.Token) []api.Token {
	l = slices.Clone(l)
	for i := range l {
		l[i].At = 0
	}
	return l
}

// TestP33Spelled: what is spelled, a blank between any two, is read as these tokens.
func TestP33Spelled(t *testing.T) {
	r := rand.New(rand.NewSource(33))
	var all []api.Token
	for _, x := range spelled {
		all = append(all, x.t)
	}
	for _, w := range signs {
		all = append(all, sign(0, w))
	}
	for range 5000 {
		var l []api.Token
		var words []string
		for range r.Intn(20) {
			x := all[r.Intn(len(all))]
			if r.Intn(4) == 0 {
				x = number(0, int64(r.Uint64())>>r.Intn(64))
			}
			s, is := lex.Spell(x)
			if !is {
				t.Fatalf("%v has no text", x)
			}
			l, words = append(l, x), append(words, s)
		}
		text := strings.Join(words, []string{" ", "\t"}[r.Intn(2)])
		if got, f := lex.Lex(text); f != none || !slices.Equal(bare(got), bare(l)) {
			t.Fatalf("%q: %v, %v; wanted %v", text, got, f, l)
		}
	}
}

// TestP33Blank: a blank more ahead of a token changes nothing but places.
func TestP33Blank(t *testing.T) {
	r := rand.New(rand.NewSource(330))
	for range 3000 {
		text := drawn(r, 8, true)
		l, _ := lex.Lex(text)
		for i, x := range l {
			got, f := lex.Lex(text[:x.At] + " " + text[x.At:])
			want := slices.Clone(l)
			for k := i; k < len(want); k++ {
				want[k].At++
			}
			if f != none || !slices.Equal(got, want) {
				t.Fatalf("%q, a blank more at %d: %v, %v", text, x.At, got, f)
			}
		}
	}
}

// TestP34Places: places rise and lie in the text; a text that is cut ahead of a token, or where a fault is told, has the tokens ahead of it.
func TestP34Places(t *testing.T) {
	r := rand.New(rand.NewSource(34))
	faults := 0
	for i := range 6000 {
		text := drawn(r, 10, i%2 == 0)
		l, f := lex.Lex(text)
		if f != none {
			faults++
			if f.At < 0 || f.At >= len(text) || len(l) != 0 {
				t.Fatalf("%q: %v, %v", text, l, f)
			}
			if _, f = lex.Lex(text[:f.At]); f != none {
				t.Fatalf("%q, cut where its fault is: %v", text, f)
			}
			continue
		}
		last := -1
		for k, x := range l {
			if x.At <= last || x.At >= len(text) {
				t.Fatalf("%q: %v", text, l)
			}
			last = x.At
			if got, f := lex.Lex(text[:x.At]); f != none || !slices.Equal(got, l[:k]) {
				t.Fatalf("%q, cut at %d: %v, %v", text, x.At, got, f)
			}
		}
	}
	if faults < 500 {
		t.Errorf("only %d faults were drawn", faults)
	}
}

// TestP35Lines: two texts with a line's end between them.
func TestP35Lines(t *testing.T) {
	r := rand.New(rand.NewSource(35))
	for i := range 6000 {
		a, b := drawn(r, 6, i%8 != 0), drawn(r, 6, i%8 != 1)
		l, f := lex.Lex(a)
		m, g := lex.Lex(b)
		got, h := lex.Lex(a + "\n" + b)
		if f != none || g != none {
			g.At += len(a) + 1
			if h == none || len(got) != 0 || f != none && h != f || f == none && h != g {
				t.Fatalf("%q and %q: %v, %v", a, b, got, h)
			}
			continue
		}
		want := append(slices.Clone(l), line(len(a)))
		for _, x := range m {
			x.At += len(a) + 1
			want = append(want, x)
		}
		if h != none || !slices.Equal(got, want) {
			t.Fatalf("%q and %q: %v, %v; wanted %v", a, b, got, h, want)
		}
	}
}

// TestP32Drawn: of drawn tokens those have a text that a second working-out knows, and are read from it.
func TestP32Drawn(t *testing.T) {
	r := rand.New(rand.NewSource(32))
	for range 20000 {
		x := api.Token{Kind: r.Intn(7) - 1, At: r.Intn(5) - 2}
		if r.Intn(4) > 0 {
			x.Word = pieces[r.Intn(len(pieces))]
		}
		if r.Intn(3) == 0 {
			x.N = int64(r.Intn(5) - 2)
		}
		want, has := "", false
		for _, s := range []string{x.Word, strings.Replace(strconv.FormatInt(x.N, 10), "-", "_", 1), "\n"} {
			y := x
			y.At = 0
			if l, f := again(s); !has && f == none && len(l) == 1 && l[0] == y {
				want, has = s, true
			}
		}
		if s, is := lex.Spell(x); s != want || is != has {
			t.Fatalf("%v: %q, %v; wanted %q, %v", x, s, is, want, has)
		}
	}
}
