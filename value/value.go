// Package value is layer 1: see shared/doc/01-value.md.
package value

import (
	"cmp"
	"strings"

	"caddis/api"
)

// May: may a value be?
func May(v api.Value) bool {
	switch v.Kind {
	case api.Null:
		if v.I != 0 {
			return false
		}
		// What is left to ask of NULL is what is asked of a number.
		fallthrough
	case api.Int:
		return v.S == ""
	case api.Text:
		return v.I == 0 && len(v.S) <= api.MaxText && !strings.ContainsFunc(v.S, outside(' ', '~'))
	case api.Bool:
		return v.S == "" && (v.I == 0 || v.I == 1)
	}
	return false
}

// outside tells of an octet whether it is below low or above high. An octet above 127 comes as a rune above 127, or as the one that stands for what is no rune: both are above any high that is an octet of ASCII.
func outside(low, high rune) func(rune) bool {
	return func(r rune) bool { return r < low || r > high }
}

// held is what a value counts as: NULL stands for what may not be.
func held(v api.Value) api.Value {
	if !May(v) {
		return api.Value{}
	}
	return v
}

// Order says which value is first.
func Order(a, b api.Value) int {
	a, b = held(a), held(b)
	return cmp.Or(cmp.Compare(a.Kind, b.Kind), cmp.Compare(a.I, b.I), strings.Compare(a.S, b.S))
}

// Equal is whether two are the same.
func Equal(a, b api.Value) api.Value {
	if !alike(a, b) {
		return api.Value{}
	}
	return truth(Order(a, b) == 0)
}

// Less is whether one is ahead.
func Less(a, b api.Value) api.Value {
	if !alike(a, b) {
		return api.Value{}
	}
	return truth(Order(a, b) < 0)
}

// alike: are both of one kind, and neither of them NULL?
func alike(a, b api.Value) bool {
	a, b = held(a), held(b)
	return a.Kind == b.Kind && a.Kind != api.Null
}

// Plus is a sum.
func Plus(a, b api.Value) api.Value {
	sum := a.I + b.I
	// A sum that went around has moved away from a against b's sign.
	if !numbers(a, b) || (sum > a.I) != (b.I > 0) {
		return api.Value{}
	}
	return api.Value{Kind: api.Int, I: sum}
}

// Minus is a difference.
func Minus(a, b api.Value) api.Value {
	diff := a.I - b.I
	if !numbers(a, b) || (diff < a.I) != (b.I > 0) {
		return api.Value{}
	}
	return api.Value{Kind: api.Int, I: diff}
}

// numbers: are both numbers?
func numbers(a, b api.Value) bool {
	return held(a).Kind == api.Int && held(b).Kind == api.Int
}

// IsNull is whether it is.
func IsNull(a api.Value) api.Value {
	return truth(held(a).Kind == api.Null)
}
