package expr

import (
	"slices"

	"caddis/api"
	"caddis/value"
)

// place is the place of the first column of a name; -1, if there is none.
func place(cols []api.Column, name string) int {
	return slices.IndexFunc(cols, func(c api.Column) bool { return c.Name == name })
}

// Type is an expression's type.
func Type(e api.Expr, cols []api.Column) (int, api.Errno) {
	if !May(e) {
		return 0, api.ErrArg
	}
	return typeOf(e, cols)
}

// typeOf is the type of an expression that may be.
func typeOf(e api.Expr, cols []api.Column) (int, api.Errno) {
	switch e.Op {
	case lit:
		return e.V.Kind, api.OK
	case col:
		i := place(cols, e.S)
		if i < 0 {
			return 0, api.ErrName
		}
		return cols[i].Type, api.OK
	}
	var l []int
	for _, part := range e.L {
		t, err := typeOf(part, cols)
		if err != api.OK {
			return 0, err
		}
		l = append(l, t)
	}
	return made(e.Op, l)
}

// made is the type that an Op makes of its parts' types.
func made(op string, l []int) (int, api.Errno) {
	t, ok := api.Bool, true
	switch op {
	case not, and, or:
		ok = all(l, api.Bool)
	case "+", "-":
		t, ok = api.Int, all(l, api.Int)
	case "=", "<":
		ok = alike(l[0], l[1])
	}
	if !ok {
		return 0, api.ErrType
	}
	return t, api.OK
}

// all: does each type go with t?
func all(l []int, t int) bool {
	return !slices.ContainsFunc(l, func(u int) bool { return !alike(u, t) })
}

// alike: do two types go with one another? NULL's goes with any.
func alike(t, u int) bool {
	return t == u || t == api.Null || u == api.Null
}

// Eval is an expression's value.
func Eval(e api.Expr, cols []api.Column, row []api.Value) api.Value {
	if !May(e) {
		return api.Value{}
	}
	o := over{cols, row, doings()}
	return o.value(e)
}

// over is a row, and what is done with its values.
type over struct {
	cols []api.Column
	row  []api.Value
	does map[string]doing
}

// value is the value of an expression that may be.
func (o over) value(e api.Expr) api.Value {
	switch e.Op {
	case lit:
		return e.V
	case col:
		return o.column(e.S)
	}
	var l []api.Value
	for _, part := range e.L {
		l = append(l, o.value(part))
	}
	return o.does[e.Op](l)
}

// column is the value of the column of a name.
func (o over) column(name string) api.Value {
	i := place(o.cols, name)
	if i < 0 || i >= len(o.row) {
		return api.Value{}
	}
	return o.row[i]
}

// doing is what an Op does with as many values as it has parts.
type doing func(l []api.Value) api.Value

// doings is what each Op does.
func doings() map[string]doing {
	return map[string]doing{
		not:  one(value.Not),
		null: one(value.IsNull),
		and:  two(value.And),
		or:   two(value.Or),
		"=":  two(value.Equal),
		"<":  two(value.Less),
		"+":  two(value.Plus),
		"-":  two(value.Minus),
	}
}

// one does something with the only value.
func one(f func(a api.Value) api.Value) doing {
	return func(l []api.Value) api.Value { return f(l[0]) }
}

// two does something with both values.
func two(f func(a, b api.Value) api.Value) doing {
	return func(l []api.Value) api.Value { return f(l[0], l[1]) }
}
