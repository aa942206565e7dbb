package parse

import "windrow/api"

// reader reads an expression: the tokens that are left, a line's end the last of them, and the items so far.
type reader struct {
	tokens []api.Token
	items  []api.Item
	// What is still to be done where an expression ends, that of the innermost one last; nil stands for a bracket that is open.
	todo []func()
	open int
}

// expression reads one that ends where its line does.
func expression(tokens []api.Token) ([]api.Item, api.Fault) {
	r := reader{tokens: tokens}
	behind := false // an operand
	for {
		var f api.Fault
		switch next := r.tokens[0]; {
		case verb(next.Word):
			f = r.phrase(behind)
			behind = false
		case !behind:
			behind, f = r.operand()
		case next.Kind == api.TLine && r.open > 0:
			f = fault(next, api.ErrParseWant)
		case next.Kind == api.TLine:
			r.settle()
			return r.items, api.Fault{}
		case next.Word == ")" && r.open > 0:
			r.take()
			r.open--
			r.settle()
		default:
			f = fault(next, api.ErrParseRest)
		}
		if f.Code != api.OK {
			return nil, f
		}
	}
}

// take takes the next token. That of the line's end is never taken, so that there always is a next one.
func (r *reader) take() api.Token {
	t := r.tokens[0]
	r.tokens = r.tokens[1:]
	return t
}

// settle does what is still to be done, back to the bracket that was opened last.
func (r *reader) settle() {
	for len(r.todo) > 0 {
		last := r.todo[len(r.todo)-1]
		r.todo = r.todo[:len(r.todo)-1]
		if last == nil {
			return
		}
		last()
	}
}

// operand reads one where an expression begins; or a bracket that opens one: then none is read so far.
func (r *reader) operand() (bool, api.Fault) {
	first := r.tokens[0]
	item := api.Item{At: first.At}
	switch {
	case first.Kind == api.TNumber:
		item.How = api.INumbers
		for r.tokens[0].Kind == api.TNumber {
			item.Nums = append(item.Nums, r.take().N)
		}
	case Name(first.Word):
		item.How = api.IName
		item.Name = r.take().Word
	case first.Word == "(" && r.open == api.MaxNest:
		return false, fault(first, api.ErrParseNest)
	case first.Word == "(":
		r.take()
		r.open++
		r.todo = append(r.todo, nil)
		return false, api.Fault{}
	case first.Kind == api.TWord:
		return false, fault(first, api.ErrParseWord)
	default:
		return false, fault(first, api.ErrParseWant)
	}
	r.items = append(r.items, item)
	return true, api.Fault{}
}

// phrase reads a verb and the mark behind it, where an expression begins or behind an operand; its item waits for the expression on its right.
func (r *reader) phrase(behind bool) api.Fault {
	sign := r.take()
	item := api.Item{At: sign.At}
	switch mark := r.mark(); {
	case mark == "/" && !behind:
		item.How, item.Fn = api.IFold, between(sign.Word)
	case mark == "\\" && !behind:
		item.How, item.Fn = api.IScan, between(sign.Word)
	case mark == "." && behind:
		item.How, item.Fn = api.IOuter, between(sign.Word)
	case mark == "" && behind:
		item.How = api.IDyad
		item.Fn, _ = Verb(sign.Word, true)
	case mark == "":
		item.How = api.IMonad
		item.Fn, _ = Verb(sign.Word, false)
	}
	if item.Fn == 0 {
		return fault(sign, api.ErrParseFn)
	}
	r.todo = append(r.todo, func() { r.items = append(r.items, item) })
	return api.Fault{}
}

// mark reads what may stand right behind a verb's word or sign: nothing, if it does not.
func (r *reader) mark() string {
	switch r.tokens[0].Word {
	case "/", "\\", ".":
		return r.take().Word
	}
	return ""
}
