package schema

import (
	"slices"

	"caddis/api"
	"caddis/own"
	"caddis/stmt"
)

// Of is the table of a statement.
func Of(s api.Stmt) (api.Table, api.Errno) {
	if s.Op != "create" || !stmt.May(s) {
		return api.Table{}, api.ErrArg
	}
	if twice(s.Cols) {
		return api.Table{}, api.ErrThere
	}
	t, e := placed(s)
	if e == api.OK {
		e = checked(t)
	}
	if e != api.OK {
		return api.Table{}, e
	}
	t.Cols[t.Key].NotNull = true
	return t, api.OK
}

// placed is a create's table, with places where the statement has names.
func placed(s api.Stmt) (api.Table, api.Errno) {
	t := api.Table{Name: s.Table, Cols: slices.Clone(s.Cols), Check: own.Expr(s.Check)}
	e := api.OK
	place := func(name string) int {
		i := Place(t, name)
		if i < 0 {
			e = api.ErrName
		}
		return i
	}
	t.Key = place(s.Key)
	for _, name := range s.Uniques {
		t.Uniques = append(t.Uniques, place(name))
	}
	for _, r := range s.Refs {
		t.Refs = append(t.Refs, api.Foreign{Col: place(r.Col), Table: r.Table})
	}
	return t, e
}
