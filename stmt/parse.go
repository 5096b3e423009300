package stmt

import (
	"caddis/api"
	"caddis/expr"
	"caddis/lexer"
)

// Parse is a text's statement.
func Parse(text string) (api.Stmt, api.Errno) {
	l, e := lexer.Cut(text)
	if e != api.OK {
		return api.Stmt{}, api.ErrParse
	}
	p := &parser{l: l}
	s := p.statement()
	// What was parsed may have too many parts, or a text of more tokens than were read.
	if p.failed || p.at < len(l) || !May(s) {
		return api.Stmt{}, api.ErrParse
	}
	return s, api.OK
}

// parser goes through tokens, from the left on.
type parser struct {
	l      []api.Token
	at     int
	failed bool
}

// next is the token at hand; none at the end. There is none any more once parsing has failed: so whatever goes on with a token ends.
func (p *parser) next() api.Token {
	if p.failed || p.at == len(p.l) {
		return api.Token{}
	}
	return p.l[p.at]
}

// take goes past these words and signs, if all of them stand here, one behind the other, and tells whether they do.
func (p *parser) take(words ...string) bool {
	from := p.at
	for _, w := range words {
		if !lexer.Is(p.next(), w) {
			p.at = from
			return false
		}
		p.at++
	}
	return true
}

// must goes past words and signs that must stand here.
func (p *parser) must(words ...string) {
	if !p.take(words...) {
		p.failed = true
	}
}

// one goes past the word at hand, and on by what a map has for it.
func (p *parser) one(of map[string]func() api.Stmt) api.Stmt {
	t := p.next()
	parse, ok := of[t.S]
	if t.Kind != api.Word || !ok {
		p.failed = true
		return api.Stmt{}
	}
	p.at++
	return parse()
}

// list is one thing, and more of the same with , between.
func (p *parser) list(thing func()) {
	thing()
	for p.take(",") {
		thing()
	}
}

// bracketed is what stands in ( and ).
func (p *parser) bracketed(inside func()) {
	p.must("(")
	inside()
	p.must(")")
}

// name is a name.
func (p *parser) name() string {
	t := p.next()
	if t.Kind != api.Word || !named(t.S) {
		p.failed = true
		return ""
	}
	p.at++
	return t.S
}

// inBrackets is a name that stands in ( and ).
func (p *parser) inBrackets() string {
	var s string
	p.bracketed(func() { s = p.name() })
	return s
}

// expr is an expression.
func (p *parser) expr() api.Expr {
	if p.failed {
		return api.Expr{}
	}
	e, n, err := expr.Parse(p.l[p.at:])
	p.at += n
	p.failed = err != api.OK
	return e
}

// value is a value, as an atom has it: what stands in ( and ) is an expression, even if nothing but a value is in there.
func (p *parser) value() api.Value {
	open := lexer.Is(p.next(), "(")
	e := p.expr()
	if open || e.Op != "lit" {
		p.failed = true
	}
	return e.V
}

// where is the expression of a WHERE; none, if that is missing.
func (p *parser) where() api.Expr {
	if !p.take("WHERE") {
		return api.Expr{}
	}
	return p.expr()
}

// check is likewise of a CHECK, that begins with these words and signs.
func (p *parser) check(words ...string) api.Expr {
	var e api.Expr
	if p.take(words...) {
		p.bracketed(func() { e = p.expr() })
	}
	return e
}
