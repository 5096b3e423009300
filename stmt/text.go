package stmt

import (
	"strings"

	"caddis/api"
	"caddis/expr"
	"caddis/lexer"
	"caddis/value"
)

// comma is what stands between a list's things.
const comma = " , "

// Text is a statement's text.
func Text(s api.Stmt) (string, api.Errno) {
	if !formed(s) {
		return "", api.ErrArg
	}
	text := written(s)
	// All of it is tokens: nothing but too many of them can go wrong here.
	if _, e := lexer.Cut(text); e != api.OK {
		return "", api.ErrArg
	}
	return text, api.OK
}

// written is the text of a statement that has the parts that its Op names.
func written(s api.Stmt) string {
	switch s.Op {
	case createOp:
		return "CREATE TABLE " + s.Table + bracketed(definitions(s))
	case dropOp:
		return "DROP TABLE " + s.Table
	case insertOp:
		return "INSERT INTO " + s.Table + " VALUES" + bracketed(listed(s.Row, value.Text))
	case updateOp:
		return "UPDATE " + s.Table + " SET " + listed(s.Sets, set) + where(s.Where)
	case deleteOp:
		return "DELETE FROM " + s.Table + where(s.Where)
	case selectOp:
		return "SELECT * FROM " + s.Table + where(s.Where)
	case readOp:
		return "GRANT READ ON " + s.Table + " TO " + s.Role
	case writeOp:
		return "GRANT WRITE ON " + s.Table + " TO " + s.Role
	case unreadOp:
		return "REVOKE READ ON " + s.Table + " FROM " + s.Role
	case unwriteOp:
		return "REVOKE WRITE ON " + s.Table + " FROM " + s.Role
	case copyOp:
		return "MIGRATE COPY " + s.Table + " FROM " + s.Other + bracketed(strings.Join(s.Names, comma)) + check(" ", s.Check)
	case joinOp:
		return "MIGRATE JOIN " + s.Table + " FROM " + s.Other + " , " + s.Role + " ON " + s.Key + check(" ", s.Check)
	}
	return "MIGRATE GROUP " + s.Table + " FROM " + s.Other + " BY " + s.Names[0] + " SUM " + s.Names[1] + check(" ", s.Check)
}

// definitions is what stands in the ( and ) of a CREATE TABLE.
func definitions(s api.Stmt) string {
	text := listed(s.Cols, define) + comma + "KEY" + bracketed(s.Key)
	for _, c := range s.Uniques {
		text += comma + "UNIQUE" + bracketed(c)
	}
	for _, r := range s.Refs {
		text += comma + "REFERENCES" + bracketed(r.Col) + " " + r.Table
	}
	return text + check(comma, s.Check)
}

// define is a column's text.
func define(c api.Column) string {
	text := c.Name + " " + types[c.Type]
	if c.NotNull {
		text += " NOT NULL"
	}
	return text
}

// set is the text of a c = e of SET.
func set(s api.Set) string { return s.Name + " = " + exprText(s.E) }

// where is what stands behind a statement for its WHERE: nothing, if that is missing.
func where(e api.Expr) string {
	if none(e) {
		return ""
	}
	return " WHERE " + exprText(e)
}

// check is likewise for a CHECK, with ahead between.
func check(ahead string, e api.Expr) string {
	if none(e) {
		return ""
	}
	return ahead + "CHECK" + bracketed(exprText(e))
}

// exprText is the text of an expression that may be.
func exprText(e api.Expr) string {
	text, _ := expr.Text(e)
	return text
}

// bracketed is a text in ( and ), behind a blank.
func bracketed(text string) string { return " ( " + text + " )" }

// listed is the texts of a list's things, with , between.
func listed[T any](l []T, text func(T) string) string {
	var texts []string
	for _, x := range l {
		texts = append(texts, text(x))
	}
	return strings.Join(texts, comma)
}
