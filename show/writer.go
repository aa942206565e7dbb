package show

import (
	"strings"

	"windrow/api"
	"windrow/parse"
)

// verb is how a function is written, of one array and of two: empty, where it is none.
type verb struct{ one, two string }

// verbs is layer 4's table, by the functions.
func verbs() map[api.Fn]verb {
	return map[api.Fn]verb{
		api.Plus:    {one: "+", two: "+"},
		api.Minus:   {one: "-", two: "-"},
		api.Times:   {one: "*", two: "*"},
		api.Divide:  {one: "%", two: "%"},
		api.Residue: {one: "|", two: "|"},
		api.Least:   {one: "min", two: "min"},
		api.Most:    {one: "max", two: "max"},
		api.Equal:   {two: "="},
		api.Unlike:  {two: "~"},
		api.Less:    {two: "<"},
		api.AtMost:  {two: "<="},
		api.AtLeast: {two: ">="},
		api.More:    {two: ">"},
		api.And:     {two: "and"},
		api.Or:      {two: "or"},
		api.Not:     {one: "~"},
		api.Power:   {two: "pow"},
		api.Iota:    {one: "iota"},
		api.Shape:   {one: "shape"},
		api.Ravel:   {one: "ravel"},
		api.Rev:     {one: "rev"},
		api.Turn:    {one: "turn"},
		api.Rho:     {two: "rho"},
		api.Take:    {two: "take"},
		api.Drop:    {two: "drop"},
		api.Cat:     {two: "cat"},
	}
}

// value is the text of a value that there is.
type value struct {
	text string
	// Whether it stands as an operand without brackets.
	bare bool
	// The most brackets of it that are open at one time.
	open int
}

// writer writes an expression, item by item.
type writer struct {
	table  map[api.Fn]verb
	values []value
	// How many tokens the line may still have: each item has its own in it, so that no work is done beyond the limit.
	left int
}

// expression is the text of items, of at most so many tokens; false, if they may not be.
func expression(items []api.Item, tokens int, table map[api.Fn]verb) (string, bool) {
	w := writer{table: table, left: tokens}
	for _, x := range items {
		if !w.write(x) {
			return "", false
		}
	}
	if len(w.values) != 1 {
		return "", false
	}
	return w.values[0].text, true
}

// write makes an item's text out of those that there are; false, if the item may not be there.
func (w *writer) write(x api.Item) bool {
	switch x.How {
	case api.INumbers:
		return x.Name == "" && x.Fn == 0 && w.numbers(x.Nums)
	case api.IName:
		return len(x.Nums) == 0 && x.Fn == 0 && w.name(x.Name)
	case api.IMonad, api.IFold, api.IScan:
		return x.Name == "" && len(x.Nums) == 0 && w.ofOne(x)
	case api.IDyad, api.IOuter:
		return x.Name == "" && len(x.Nums) == 0 && w.ofTwo(x)
	}
	return false
}

func (w *writer) numbers(l []int64) bool {
	if len(l) == 0 || !w.spend(len(l)) {
		return false
	}
	var texts []string
	for _, n := range l {
		texts = append(texts, number(n))
	}
	w.put(value{text: strings.Join(texts, " "), bare: true})
	return true
}

func (w *writer) name(s string) bool {
	if !parse.Name(s) || !w.spend(1) {
		return false
	}
	w.put(value{text: s, bare: true})
	return true
}

// ofOne writes a verb ahead of the last text.
func (w *writer) ofOne(x api.Item) bool {
	sign, written := w.sign(x)
	if !written || len(w.values) < 1 {
		return false
	}
	right := w.take()
	w.put(value{text: sign + " " + right.text, open: right.open})
	return true
}

// ofTwo writes a verb between the last but one and the last text.
func (w *writer) ofTwo(x api.Item) bool {
	sign, written := w.sign(x)
	if !written || len(w.values) < 2 {
		return false
	}
	right := w.take()
	left := w.take()
	if !left.bare {
		left.text = "(" + left.text + ")"
		left.open++
		if left.open > api.MaxNest || !w.spend(2) {
			return false
		}
	}
	w.put(value{text: left.text + " " + sign + " " + right.text, open: max(left.open, right.open)})
	return true
}

// sign is an item's verb with the mark behind it; false, if its function has none such, or the line no room for it.
func (w *writer) sign(x api.Item) (string, bool) {
	word := w.table[x.Fn].two
	if x.How == api.IMonad {
		word = w.table[x.Fn].one
	}
	mark := markOf(x.How)
	if word == "" || mark != "" && x.Fn > api.Power {
		return "", false
	}
	// A mark is one byte, and a token of its own.
	return word + mark, w.spend(1 + len(mark))
}

// markOf is what stands right behind the verb of an item that works so: only a function of numbers may have it.
func markOf(how int) string {
	switch how {
	case api.IFold:
		return "/"
	case api.IScan:
		return "\\"
	case api.IOuter:
		return "."
	}
	return ""
}

// spend takes tokens from those that the line may still have; false, if there are not as many.
func (w *writer) spend(tokens int) bool {
	w.left -= tokens
	return w.left >= 0
}

func (w *writer) put(v value) { w.values = append(w.values, v) }

// take takes the last value; there must be one.
func (w *writer) take() value {
	last := w.values[len(w.values)-1]
	w.values = w.values[:len(w.values)-1]
	return last
}
