package base

import (
	"slices"

	"caddis/api"
	"caddis/expr"
	"caddis/rel"
	"caddis/schema"
	"caddis/stmt"
)

// The Ops of statements on tables.
const (
	createOp = "create"
	dropOp   = "drop"
	insertOp = "insert"
	updateOp = "update"
	deleteOp = "delete"
	selectOp = "select"
)

// work is a statement on a base, and the place of its table there: -1, if there is none.
type work struct {
	db []api.Rel
	s  api.Stmt
	at int
}

// Do does a statement.
func Do(db []api.Rel, s api.Stmt) ([]api.Rel, api.Answer) {
	w := &work{db: db, s: s, at: Find(db, s.Table)}
	do, ok := map[string]func() ([]api.Rel, api.Answer){
		createOp: w.create,
		dropOp:   w.drop,
		insertOp: w.insert,
		updateOp: w.update,
		deleteOp: w.remove,
		selectOp: w.show,
	}[s.Op]
	switch {
	case !ok || Check(db) != api.OK || !stmt.May(s):
		return w.refuse(api.ErrArg)
	case w.at < 0 && s.Op != createOp:
		return w.refuse(api.ErrNone)
	}
	return do()
}

// refuse answers the base as it is, and an error.
func (w *work) refuse(e api.Errno) ([]api.Rel, api.Answer) { return w.db, api.Answer{E: e} }

// settle answers the base as it would be, if that is bound, and how many things the statement was about.
func (w *work) settle(db []api.Rel, n int) ([]api.Rel, api.Answer) {
	if !bound(db) {
		return w.refuse(api.ErrRef)
	}
	return db, api.Answer{N: n}
}

// lay answers the base as it would be with these rows in the table, if that may be.
func (w *work) lay(rows [][]api.Value, n int) ([]api.Rel, api.Answer) {
	x := rel.Sort(api.Rel{T: w.db[w.at].T, Rows: rows})
	if e := rel.Check(x); e != api.OK {
		return w.refuse(e)
	}
	return w.settle(With(w.db, x), n)
}

// create does CREATE TABLE.
func (w *work) create() ([]api.Rel, api.Answer) {
	t, e := schema.Of(w.s)
	switch {
	case e != api.OK:
		return w.refuse(e)
	case w.at >= 0:
		return w.refuse(api.ErrThere)
	case len(w.db) == api.MaxTables:
		return w.refuse(api.ErrFull)
	}
	return w.settle(With(w.db, api.Rel{T: t}), 1)
}

// drop does DROP TABLE.
func (w *work) drop() ([]api.Rel, api.Answer) { return w.settle(Without(w.db, w.s.Table), 1) }

// insert does INSERT.
func (w *work) insert() ([]api.Rel, api.Answer) {
	return w.lay(append(slices.Clone(w.db[w.at].Rows), w.s.Row), 1)
}

// update does UPDATE.
func (w *work) update() ([]api.Rel, api.Answer) {
	t := w.db[w.at].T
	if e := settable(t, w.s.Sets); e != api.OK {
		return w.refuse(e)
	}
	hit, rest, e := w.parted()
	if e != api.OK {
		return w.refuse(e)
	}
	for _, row := range hit {
		rest = append(rest, given(t, w.s.Sets, row))
	}
	return w.lay(rest, len(hit))
}

// remove does DELETE.
func (w *work) remove() ([]api.Rel, api.Answer) {
	hit, rest, e := w.parted()
	if e != api.OK {
		return w.refuse(e)
	}
	return w.lay(rest, len(hit))
}

// show does SELECT.
func (w *work) show() ([]api.Rel, api.Answer) {
	hit, e := rel.Where(w.db[w.at], w.s.Where)
	if e != api.OK {
		return w.refuse(e)
	}
	return w.db, api.Answer{N: len(hit), Rows: hit}
}

// parted is the table's rows for which the statement's condition is TRUE, and the other ones.
func (w *work) parted() (hit, rest [][]api.Value, e api.Errno) {
	x := w.db[w.at]
	hit, e = rel.Where(x, w.s.Where)
	taken := api.Rel{T: x.T, Rows: hit}
	for _, row := range x.Rows {
		if !rel.Has(taken, x.T.Key, row[x.T.Key]) {
			rest = append(rest, row)
		}
	}
	return hit, rest, e
}

// settable says what is wrong, set by set, with what an UPDATE gives a table's columns.
func settable(t api.Table, sets []api.Set) api.Errno {
	for i, set := range sets {
		at := schema.Place(t, set.Name)
		switch {
		case at < 0:
			return api.ErrName
		case slices.ContainsFunc(sets[:i], func(o api.Set) bool { return o.Name == set.Name }):
			return api.ErrThere
		}
		kind, e := expr.Type(set.E, t.Cols)
		if e == api.OK && kind != t.Cols[at].Type && kind != api.Null {
			e = api.ErrType
		}
		if e != api.OK {
			return e
		}
	}
	return api.OK
}

// given is a row with what an UPDATE gives it.
func given(t api.Table, sets []api.Set, row []api.Value) []api.Value {
	l := slices.Clone(row)
	for _, set := range sets {
		// Each expression is of the row as it was: so what was given already is not seen.
		l[schema.Place(t, set.Name)] = expr.Eval(set.E, t.Cols, row)
	}
	return l
}
