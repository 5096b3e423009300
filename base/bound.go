package base

import (
	"slices"

	"caddis/api"
)

// entry is a key, and the name of the table in which it is one.
type entry struct {
	table string
	key   api.Value
}

// bound: is there, of tables that may be, for each Ref the table that it names, and is each value in its column, but NULL, a key there?
func bound(db []api.Rel) bool {
	there := keys(db)
	for _, x := range db {
		for _, f := range x.T.Refs {
			if Find(db, f.Table) < 0 || astray(x, f, there) {
				return false
			}
		}
	}
	return true
}

// keys are the keys of all tables.
func keys(db []api.Rel) map[entry]struct{} {
	l := map[entry]struct{}{}
	for _, x := range db {
		for _, row := range x.Rows {
			l[entry{x.T.Name, row[x.T.Key]}] = struct{}{}
		}
	}
	return l
}

// astray: does some row refer to a key that there is not?
func astray(x api.Rel, f api.Foreign, there map[entry]struct{}) bool {
	return slices.ContainsFunc(x.Rows, func(row []api.Value) bool {
		v := row[f.Col]
		_, ok := there[entry{f.Table, v}]
		return v.Kind != api.Null && !ok
	})
}
