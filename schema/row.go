package schema

import (
	"slices"

	"caddis/api"
	"caddis/expr"
	"caddis/value"
)

// Fits says what is wrong with a row.
func Fits(t api.Table, row []api.Value) api.Errno {
	if !May(t) || len(row) != len(t.Cols) || slices.ContainsFunc(row, func(v api.Value) bool { return !value.May(v) }) {
		return api.ErrArg
	}
	for i := range len(t.Cols) {
		if e := held(t.Cols[i], row[i]); e != api.OK {
			return e
		}
	}
	if expr.Eval(t.Check, t.Cols, row) == (api.Value{Kind: api.Bool}) {
		return api.ErrCheck
	}
	return api.OK
}

// held says what is wrong with a value in a column.
func held(c api.Column, v api.Value) api.Errno {
	switch {
	case v.Kind == c.Type || v.Kind == api.Null && !c.NotNull:
		return api.OK
	case v.Kind == api.Null:
		return api.ErrNull
	}
	return api.ErrType
}

// Key is a row's key.
func Key(t api.Table, row []api.Value) api.Value {
	if !May(t) || t.Key >= len(row) {
		return api.Value{}
	}
	return row[t.Key]
}
