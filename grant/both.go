package grant

import (
	"slices"

	"caddis/api"
)

// Both is grants in which who may all of some tables may another one.
func Both(l []api.Grant, u string, tables ...string) []api.Grant {
	return with(Without(l, u), common(l, u, tables)...)
}

// common is the grants of u of those who have them of all of the tables, rising; of no table none.
func common(l []api.Grant, u string, tables []string) []api.Grant {
	// Grants may be handed in that do not rise; and of tables that are named often each is asked for once.
	l = risen(l)
	tables = slices.Compact(slices.Sorted(slices.Values(tables)))
	has := among(l)
	var out []api.Grant
	for _, g := range l {
		lacks := func(table string) bool { return !has(api.Grant{Role: g.Role, Table: table, Write: g.Write}) }
		if len(tables) > 0 && g.Table == tables[0] && !slices.ContainsFunc(tables, lacks) {
			out = append(out, api.Grant{Role: g.Role, Table: u, Write: g.Write})
		}
	}
	return out
}

// risen is grants so that they rise, none twice.
func risen(l []api.Grant) []api.Grant {
	l = slices.Clone(l)
	slices.SortFunc(l, order)
	return slices.Compact(l)
}
