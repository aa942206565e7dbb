// Package word is layer 1: see shared/doc/01-word.md.
package word

import (
	"math"

	"windrow/api"
)

// Takes tells whether a function takes one number, or two.
func Takes(f api.Fn, two bool) bool {
	if two {
		return f >= api.Plus && f <= api.Power && f != api.Not
	}
	switch f {
	case api.Plus, api.Minus, api.Times, api.Divide, api.Residue, api.Least, api.Most, api.Not:
		return true
	}
	return false
}

// Dyad is a function of two numbers.
func Dyad(f api.Fn, a, b int64) (int64, api.Errno) {
	switch f {
	case api.Plus:
		return a + b, api.OK
	case api.Minus:
		return a - b, api.OK
	case api.Times:
		return a * b, api.OK
	case api.Divide:
		return divide(a, b)
	case api.Residue:
		return residue(a, b), api.OK
	case api.Least:
		return min(a, b), api.OK
	case api.Most:
		return max(a, b), api.OK
	case api.Equal, api.Unlike, api.Less, api.AtMost, api.AtLeast, api.More:
		return number(holds(f, a, b)), api.OK
	case api.And, api.Or:
		return join(f, a, b)
	case api.Power:
		return power(a, b)
	}
	return 0, api.ErrNoFn
}

// Monad is a function of one number.
func Monad(f api.Fn, a int64) (int64, api.Errno) {
	switch f {
	case api.Plus, api.Least, api.Most:
		return a, api.OK
	case api.Minus:
		return -a, api.OK
	case api.Times:
		return number(a > 0) - number(a < 0), api.OK
	case api.Divide:
		return divide(1, a)
	case api.Residue:
		return size(a), api.OK
	case api.Not:
		if !truth(a) {
			return 0, api.ErrDomain
		}
		return 1 - a, api.OK
	}
	return 0, api.ErrNoFn
}

// Unit is what a function of two numbers makes of none.
func Unit(f api.Fn) (int64, bool) {
	switch f {
	case api.Plus, api.Minus, api.Residue, api.Unlike, api.Less, api.More, api.Or:
		return 0, true
	case api.Times, api.Divide, api.Equal, api.AtMost, api.AtLeast, api.And, api.Power:
		return 1, true
	case api.Least:
		return math.MaxInt64, true
	case api.Most:
		return math.MinInt64, true
	}
	return 0, false
}

// Scans tells whether it does not matter how three numbers are put together.
func Scans(f api.Fn) bool {
	switch f {
	case api.Plus, api.Times, api.Least, api.Most, api.And, api.Or:
		return true
	}
	return false
}

// Total tells whether it takes all numbers.
func Total(f api.Fn, two bool) bool {
	switch f {
	case api.Divide, api.And, api.Or, api.Not, api.Power:
		// One list does for both: Divide refuses 0 either way, and the others take one number or two, never both.
		return false
	}
	return Takes(f, two)
}

// divide rounds down, where the language's own division rounds to 0.
func divide(a, b int64) (int64, api.Errno) {
	if b == 0 {
		return 0, api.ErrDomain
	}
	q := a / b
	if a%b != 0 && (a < 0) != (b < 0) {
		q--
	}
	return q, api.OK
}

// residue has a's sign, where the language's own remainder has b's.
func residue(a, b int64) int64 {
	if a == 0 {
		return b
	}
	r := b % a
	if r != 0 && (r < 0) != (a < 0) {
		r += a
	}
	return r
}

func size(a int64) int64 {
	if a < 0 {
		return -a
	}
	return a
}

func holds(f api.Fn, a, b int64) bool {
	switch f {
	case api.Equal:
		return a == b
	case api.Unlike:
		return a != b
	case api.Less:
		return a < b
	case api.AtMost:
		return a <= b
	case api.AtLeast:
		return a >= b
	}
	return a > b
}

func join(f api.Fn, a, b int64) (int64, api.Errno) {
	if !truth(a) || !truth(b) {
		return 0, api.ErrDomain
	}
	if f == api.And {
		return a & b, api.OK
	}
	return a | b, api.OK
}

// power squares its way up: b may be as great as a number is, too many for a product each.
func power(a, b int64) (int64, api.Errno) {
	if b < 0 {
		return 0, api.ErrDomain
	}
	p := int64(1)
	for ; b > 0; b >>= 1 {
		if b&1 == 1 {
			p *= a
		}
		a *= a
	}
	return p, api.OK
}

func truth(a int64) bool {
	return a == 0 || a == 1
}

func number(is bool) int64 {
	if is {
		return 1
	}
	return 0
}
