// Package own lays what has lists within lists into memory of its own. It stands on package api alone.
package own

import (
	"slices"

	"caddis/api"
)

// Expr is the same expression in memory of its own.
func Expr(e api.Expr) api.Expr {
	e.L = slices.Clone(e.L)
	for i, part := range e.L {
		e.L[i] = Expr(part)
	}
	return e
}
