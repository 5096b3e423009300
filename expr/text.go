package expr

import (
	"strings"

	"caddis/api"
	"caddis/value"
)

// Text is an expression's text.
func Text(e api.Expr) (string, api.Errno) {
	if !May(e) {
		return "", api.ErrArg
	}
	return written(e), api.OK
}

// written is the text of an expression that may be.
func written(e api.Expr) string {
	switch e.Op {
	case lit:
		return value.Text(e.V)
	case col:
		return e.S
	case not:
		return "(NOT " + written(e.L[0]) + ")"
	case null:
		return "(" + written(e.L[0]) + " IS NULL)"
	}
	return "(" + written(e.L[0]) + " " + strings.ToUpper(e.Op) + " " + written(e.L[1]) + ")"
}
