package value

import "caddis/api"

// What a value says where a truth is asked for, counted so that And is the lesser of two, Or the greater, and Not what is as far from the other end.
const (
	no = iota
	unknown
	yes
)

// says is what a value says: what is no Bool says as little as NULL.
func says(v api.Value) int {
	switch v {
	case truth(false):
		return no
	case truth(true):
		return yes
	}
	return unknown
}

// said is the value that says it.
func said(n int) api.Value {
	if n == unknown {
		return api.Value{}
	}
	return truth(n == yes)
}

// truth is TRUE, or FALSE.
func truth(b bool) api.Value {
	v := api.Value{Kind: api.Bool}
	if b {
		v.I = 1
	}
	return v
}

// And is both.
func And(a, b api.Value) api.Value { return said(min(says(a), says(b))) }

// Or is one of both.
func Or(a, b api.Value) api.Value { return said(max(says(a), says(b))) }

// Not is the other one.
func Not(a api.Value) api.Value { return said(yes - says(a)) }
