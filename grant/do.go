package grant

import (
	"slices"

	"caddis/api"
	"caddis/stmt"
)

// Do grants, or revokes.
func Do(l []api.Grant, s api.Stmt) ([]api.Grant, api.Errno) {
	if Check(l) != api.OK || !speaks(s) {
		return nil, api.ErrArg
	}
	g := api.Grant{Role: s.Role, Table: s.Table, Write: s.Op == writeOp || s.Op == unwriteOp}
	rest := without(l, func(o api.Grant) bool { return o == g })
	switch {
	case s.Op == unreadOp || s.Op == unwriteOp:
		return rest, api.OK
	case len(rest) == api.MaxGrants:
		return nil, api.ErrFull
	}
	return with(rest, g), api.OK
}

// speaks: does a statement give, or take, a grant that may be?
func speaks(s api.Stmt) bool {
	switch s.Op {
	case readOp, writeOp, unreadOp, unwriteOp:
		return s.Role != api.Admin && stmt.May(s)
	}
	return false
}

// Without is grants without those of a table.
func Without(l []api.Grant, table string) []api.Grant {
	return without(l, func(g api.Grant) bool { return g.Table == table })
}

// without is grants without those that go, in memory of its own.
func without(l []api.Grant, goes func(g api.Grant) bool) []api.Grant {
	return slices.DeleteFunc(slices.Clone(l), goes)
}

// with is grants with some more that rise, and are not among them: each of these stands ahead of the first one that it is less than.
func with(l []api.Grant, more ...api.Grant) []api.Grant {
	var out []api.Grant
	for _, g := range l {
		for len(more) > 0 && order(more[0], g) < 0 {
			out = append(out, more[0])
			more = more[1:]
		}
		out = append(out, g)
	}
	return append(out, more...)
}
