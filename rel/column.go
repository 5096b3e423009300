package rel

import (
	"slices"

	"caddis/api"
	"caddis/value"
)

// column is the place of a table's column: where its values stand in rows.
type column int

// of is a row's value of the column: NULL, and false, if the row is too short.
func (c column) of(row []api.Value) (api.Value, bool) {
	if int(c) >= len(row) {
		return api.Value{}, false
	}
	return row[c], true
}

// order says which row is first by the column.
func (c column) order(a, b []api.Value) int {
	v, _ := c.of(a)
	w, _ := c.of(b)
	return value.Order(v, w)
}

// first is the place of the first row that has a value there; -1, if there is none.
func (c column) first(rows [][]api.Value, v api.Value) int {
	return slices.IndexFunc(rows, func(row []api.Value) bool {
		w, ok := c.of(row)
		return ok && w == v
	})
}

// twice: do two rows have one value there, that is not NULL?
func (c column) twice(rows [][]api.Value) bool {
	met := map[api.Value]struct{}{}
	for _, row := range rows {
		v, _ := c.of(row)
		if _, ok := met[v]; ok && v.Kind != api.Null {
			return true
		}
		met[v] = struct{}{}
	}
	return false
}
