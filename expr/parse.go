package expr

import (
	"strconv"
	"strings"

	"caddis/api"
	"caddis/lexer"
	"caddis/value"
)

// Parse is the expression with which tokens begin.
func Parse(l []api.Token) (api.Expr, int, api.Errno) {
	p := &parser{l: l}
	e := p.or()
	if p.failed {
		return api.Expr{}, 0, api.ErrParse
	}
	return e, p.at, api.OK
}

// parser goes through tokens, from the left on.
type parser struct {
	l      []api.Token
	at     int
	asking int // words and signs whose part is being parsed
	failed bool
}

// next is the token at hand; none at the end, nor where one stands that may not be. There is none any more once parsing has failed: so whatever goes on with a token ends.
func (p *parser) next() api.Token {
	if p.failed || p.at == len(p.l) || !lexer.May(p.l[p.at]) {
		return api.Token{}
	}
	return p.l[p.at]
}

// take goes past the token at hand, if it is one of these words and signs, and tells which one; nothing, if it is none.
func (p *parser) take(words ...string) string {
	t := p.next()
	for _, w := range words {
		if lexer.Is(t, w) {
			p.at++
			return w
		}
	}
	return ""
}

// fail is what stands for the expression that there is not.
func (p *parser) fail() api.Expr {
	p.failed = true
	return api.Expr{}
}

// checked is e, if it may be. What it is a part of may not be either, if it may not: to fail here, not at the end, keeps small what is made.
func (p *parser) checked(e api.Expr) api.Expr {
	if !May(e) {
		return p.fail()
	}
	return e
}

// asked is the part that must follow the word or sign that was taken just now.
func (p *parser) asked(part func() api.Expr) api.Expr {
	p.asking++
	defer func() { p.asking-- }()
	// All that wait for their parts will stand above this one: MaxDepth of them make what is parsed too deep, whatever it is. So no more calls than these need wait for one another.
	if p.asking == api.MaxDepth {
		return p.fail()
	}
	return part()
}

// joined is e and the part that w asks, with w between.
func (p *parser) joined(e api.Expr, w string, part func() api.Expr) api.Expr {
	return p.checked(api.Expr{Op: strings.ToLower(w), L: []api.Expr{e, p.asked(part)}})
}

// chain is e, and parts that go on behind it with one of the words between.
func (p *parser) chain(e api.Expr, part func() api.Expr, words ...string) api.Expr {
	for w := p.take(words...); w != ""; w = p.take(words...) {
		e = p.joined(e, w, part)
	}
	return e
}

// or is ands with OR between.
func (p *parser) or() api.Expr { return p.orFrom(p.not()) }

// orFrom is the or whose first not is e.
func (p *parser) orFrom(e api.Expr) api.Expr { return p.chain(p.andFrom(e), p.and, "OR") }

// and is nots with AND between.
func (p *parser) and() api.Expr { return p.andFrom(p.not()) }

// andFrom is the and whose first not is e.
func (p *parser) andFrom(e api.Expr) api.Expr { return p.chain(e, p.not, "AND") }

// not is NOT and a not, or a comparison.
func (p *parser) not() api.Expr {
	if p.take("NOT") == "" {
		return p.comparisonFrom(p.atom())
	}
	return p.checked(api.Expr{Op: not, L: []api.Expr{p.asked(p.not)}})
}

// comparisonFrom is the comparison whose first atom is e.
func (p *parser) comparisonFrom(e api.Expr) api.Expr {
	e = p.sumFrom(e)
	switch w := p.take("=", "<", "IS"); w {
	case "":
		return e
	case "IS":
		if p.take("NULL") == "" {
			return p.fail()
		}
		return p.checked(api.Expr{Op: null, L: []api.Expr{e}})
	default:
		return p.joined(e, w, p.sum)
	}
}

// sum is atoms with + or - between.
func (p *parser) sum() api.Expr { return p.sumFrom(p.atom()) }

// sumFrom is the sum whose first atom is e.
func (p *parser) sumFrom(e api.Expr) api.Expr { return p.chain(e, p.atom, "+", "-") }

// atom is an atom. A ( makes nothing deeper, and so as many may stand here as there are tokens: they are gone into, and out of, by loops, not by calls that wait for one another.
func (p *parser) atom() api.Expr {
	open := 0
	for p.take("(") != "" {
		open++
	}
	var e api.Expr
	if open > 0 && lexer.Is(p.next(), "NOT") {
		e = p.closed(p.or())
		open--
	} else {
		e = p.plain()
	}
	for range open {
		e = p.closed(p.orFrom(p.comparisonFrom(e)))
	}
	return e
}

// closed is e, that stands in ( and ): the ) is still to be taken.
func (p *parser) closed(e api.Expr) api.Expr {
	if p.take(")") == "" {
		return p.fail()
	}
	return e
}

// plain is an atom that does not stand in ( and ).
func (p *parser) plain() api.Expr {
	minus := p.take("-")
	t := p.next()
	p.at++
	switch {
	case t.Kind == api.Number:
		return p.number(minus + t.S)
	case minus != "":
		return p.fail()
	case t.Kind == api.String:
		return api.Expr{Op: lit, V: api.Value{Kind: api.Text, S: t.S}}
	case t.Kind == api.Word:
		return p.word(t.S)
	}
	return p.fail()
}

// number is a lit of the number whose digits are s: there may be noughts ahead, as no value's text has them.
func (p *parser) number(s string) api.Expr {
	n, err := strconv.ParseInt(s, 10, 64)
	if err != nil {
		return p.fail()
	}
	return api.Expr{Op: lit, V: api.Value{Kind: api.Int, I: n}}
}

// word is a lit, if the word is a value's text, else a col.
func (p *parser) word(s string) api.Expr {
	if v, e := value.Parse(s); e == api.OK {
		return api.Expr{Op: lit, V: v}
	}
	return p.checked(api.Expr{Op: col, S: s})
}
