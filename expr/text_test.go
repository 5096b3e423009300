package expr_test

import (
	"fmt"
	"math/rand"
	"slices"
	"strconv"
	"strings"
	"testing"

	"caddis/api"
	"caddis/expr"
	"caddis/lexer"
)

// cut is a text's tokens.
func cut(t *testing.T, s string) []api.Token {
	t.Helper()
	l, e := lexer.Cut(s)
	if e != api.OK {
		t.Fatalf("Cut(%q): %d", s, e)
	}
	return l
}

// shown is how tokens are told of in a message: those behind the first ones are left out.
func shown(l []api.Token) string {
	var b strings.Builder
	for _, x := range l[:min(len(l), 40)] {
		fmt.Fprintf(&b, "%d:%.20s ", x.Kind, x.S)
	}
	return b.String() + "of " + strconv.Itoa(len(l))
}

// told is how an expression is told of in a message: of one that may not be its first nodes.
func told(e api.Expr) string {
	if s, err := expr.Text(e); err == api.OK {
		return s
	}
	var b strings.Builder
	for n := range 8 {
		fmt.Fprintf(&b, "%d: %q %v %.20q of %d; ", n, e.Op, e.V, e.S, len(e.L))
		if len(e.L) == 0 {
			break
		}
		e = e.L[0]
	}
	return b.String()
}

// wantParse tells what is wrong with what tokens are parsed as, and whether they were changed. The expression is told by its text.
func wantParse(t *testing.T, l []api.Token, want string, took int) {
	t.Helper()
	before := slices.Clone(l)
	e, n, err := expr.Parse(l)
	got, _ := expr.Text(e)
	if got != want || n != took || err != api.OK || !expr.May(e) {
		t.Errorf("Parse(%s): %s, %d, %d, want %s, %d", shown(l), got, n, err, want, took)
	}
	if !slices.Equal(l, before) {
		t.Errorf("Parse changed %s to %s", shown(before), shown(l))
	}
}

// wantNone tells if tokens are parsed as anything.
func wantNone(t *testing.T, l []api.Token) {
	t.Helper()
	before := slices.Clone(l)
	if e, n, err := expr.Parse(l); err != api.ErrParse || n != 0 || !expr.Same(e, api.Expr{}) {
		t.Errorf("Parse(%s): %s, %d, %d", shown(l), told(e), n, err)
	}
	if !slices.Equal(l, before) {
		t.Errorf("Parse changed %s to %s", shown(before), shown(l))
	}
}

// P4.3
func TestText(t *testing.T) {
	for s, e := range good() {
		before := clone(e)
		if got, err := expr.Text(e); got != s || err != api.OK {
			t.Errorf("Text(%s): %s, %d, want %s", told(e), got, err, s)
		}
		if !expr.Same(e, before) {
			t.Errorf("Text changed %s", told(before))
		}
	}
	for _, e := range bad() {
		if got, err := expr.Text(e); got != "" || err != api.ErrArg {
			t.Errorf("Text(%s): %q, %d", told(e), got, err)
		}
	}
	want := strings.Repeat("(NOT ", 11) + "a" + strings.Repeat(")", 11)
	if got, err := expr.Text(deep("not", 12, 0)); got != want || err != api.OK {
		t.Errorf("Text of MaxDepth: %s, %d", got, err)
	}
	for n := 3; n <= api.MaxNodes; n++ {
		e := op("=", wide(n-2), lit(num(1)))
		if n%2 == 0 {
			e = op("or", lit(num(1)), wide(n-2))
		}
		l, _ := expr.Text(e.L[0])
		r, _ := expr.Text(e.L[1])
		if got, err := expr.Text(e); got != "("+l+" "+strings.ToUpper(e.Op)+" "+r+")" || err != api.OK {
			t.Errorf("Text of %d nodes: %s, %d", n, got, err)
		}
	}
}

// P4.3: what stands ahead of what, and from which side on.
func TestParse(t *testing.T) {
	for s, want := range map[string]string{
		"a": "a", "NULL": "NULL", "TRUE": "TRUE", "FALSE": "FALSE", "'it''s'": "'it''s'", "''": "''", "'NULL'": "'NULL'", "true": "true", "and": "and",
		"5": "5", "-5": "-5", "- 5": "-5", "0": "0", "-0": "0", "007": "7", "-007": "-7", "0000000000000000000": "0", "9223372036854775807": "9223372036854775807", "-9223372036854775808": "-9223372036854775808", "-9223372036854775807": "-9223372036854775807",
		"(a)": "a", "((a))": "a", "(((-1)))": "-1", "((((a = 1))))": "(a = 1)", "(a) + (b)": "(a + b)", "((a) + ((b)))": "(a + b)",
		"NOT a": "(NOT a)", "NOT NOT a": "(NOT (NOT a))", "NOT (a)": "(NOT a)", "(NOT a)": "(NOT a)", "((NOT a))": "(NOT a)", "(NOT (NOT a))": "(NOT (NOT a))", "NOT a = b": "(NOT (a = b))", "NOT a IS NULL": "(NOT (a IS NULL))", "NOT a AND b": "((NOT a) AND b)", "NOT a OR b": "((NOT a) OR b)", "NOT (a AND b)": "(NOT (a AND b))", "NOT a + 1 < b": "(NOT ((a + 1) < b))",
		"a = 1 OR b IS NULL": "((a = 1) OR (b IS NULL))", "a IS NULL": "(a IS NULL)", "NULL IS NULL": "(NULL IS NULL)", "a + b IS NULL": "((a + b) IS NULL)", "(a IS NULL) IS NULL": "((a IS NULL) IS NULL)", "((a IS NULL)) IS NULL": "((a IS NULL) IS NULL)",
		"a OR b OR c": "((a OR b) OR c)", "a AND b AND c": "((a AND b) AND c)", "a + b + c": "((a + b) + c)", "a - b - c": "((a - b) - c)", "a - b + c": "((a - b) + c)", "a + b - c": "((a + b) - c)", "a OR (b OR c)": "(a OR (b OR c))", "a - (b - c)": "(a - (b - c))",
		"a OR b AND c": "(a OR (b AND c))", "a AND b OR c": "((a AND b) OR c)", "(a OR b) AND c": "((a OR b) AND c)", "a AND (b OR c)": "(a AND (b OR c))", "a OR b AND c OR d AND e": "((a OR (b AND c)) OR (d AND e))", "a AND NOT b": "(a AND (NOT b))", "a OR NOT b AND c": "(a OR ((NOT b) AND c))", "NOT a OR NOT b": "((NOT a) OR (NOT b))",
		"a = b + 1": "(a = (b + 1))", "a + 1 = b": "((a + 1) = b)", "a + 1 < b - c": "((a + 1) < (b - c))", "a = b AND c < d": "((a = b) AND (c < d))", "(a = b) = c": "((a = b) = c)", "a = (b = c)": "(a = (b = c))", "(a < b) < c": "((a < b) < c)", "(a) = b": "(a = b)", "((a) + b) = c": "((a + b) = c)", "(a = b) + c": "((a = b) + c)",
		"a - 1": "(a - 1)", "a -1": "(a - 1)", "a - -1": "(a - -1)", "a--1": "(a - -1)", "a + -1": "(a + -1)", "-1 - -1": "(-1 - -1)", "-1+-1--1": "((-1 + -1) - -1)", "a = -1": "(a = -1)", "a < -1": "(a < -1)", "(-1)": "-1", "a - 9223372036854775807": "(a - 9223372036854775807)", "a - -9223372036854775808": "(a - -9223372036854775808)",
		"((((a) + 1) + 1) = 1) OR b": "((((a + 1) + 1) = 1) OR b)", "((NOT (a)) AND ((b)))": "((NOT a) AND b)", "((NOT a = b) = c)": "((NOT (a = b)) = c)", "(((a OR b)) AND c) IS NULL": "(((a OR b) AND c) IS NULL)", "(NOT a) = b": "((NOT a) = b)", "((NOT a) = b)": "((NOT a) = b)", "((NOT a AND b) OR c) + 1": "((((NOT a) AND b) OR c) + 1)",
	} {
		l := cut(t, s)
		wantParse(t, l, want, len(l))
		wantParse(t, cut(t, "("+s+")"), want, len(l)+2)
	}
}

// P4.3: an expression with more tokens behind it: as many as can be are taken.
func TestParseBehind(t *testing.T) {
	for s, n := range map[string]int{
		"a b": 1, "a 1": 1, "a 'b'": 1, "a (": 1, "a )": 1, "a , b": 1, "a *": 1, "a NOT b": 1, "a NOT": 1, "a NULL": 1, "a TRUE": 1, "a WHERE": 1, "a SELECT": 1, "1 1": 1, "1 a": 1, "- 1 1": 2, "'a' 'b'": 1, "NULL NULL": 1, "(a) (b)": 3, "(a) b": 3, "(a))": 3, "(a) NOT b": 3,
		"a = b = c": 3, "a < b = c": 3, "a = b < c": 3, "a < b < c": 3, "a = b IS NULL": 3, "a IS NULL IS NULL": 3, "a IS NULL = b": 3, "a IS NULL < b": 3, "a IS NULL + 1": 3, "a IS NULL - 1": 3, "a = b =": 3, "a = b IS": 3, "a IS NULL +": 3, "a IS NULL IS": 3, "a IS NULL NULL": 3,
		"NOT a b": 2, "NOT a NOT": 2, "NOT a = b = c": 4, "a = b + c = d": 5, "a + b = c + d < e": 7, "a OR b c": 3, "a AND b , c = d": 3, "a + 1 )": 3, "a + 1 (": 3, "a - 1 2": 3, "(a = b) = c = d": 7, "a OR b = c = d": 5, "a AND b IS NULL IS NULL": 5,
	} {
		l := cut(t, s)
		e, took, err := expr.Parse(l)
		want, _, _ := expr.Parse(l[:n])
		if took != n || err != api.OK || !expr.Same(e, want) {
			t.Errorf("Parse(%s): %s, %d, %d, want %d", s, told(e), took, err, n)
		}
	}
}

// P4.3: what asks for something, and does not get it; what begins no expression.
func TestParseWrong(t *testing.T) {
	wantNone(t, nil)
	wantNone(t, []api.Token{})
	for _, s := range language() {
		if s != "NULL" && s != "TRUE" && s != "FALSE" {
			wantNone(t, cut(t, s))
			wantNone(t, cut(t, s+" IS NULL"))
			wantNone(t, cut(t, "a = "+s))
		}
		if s != "NULL" {
			wantNone(t, cut(t, "a IS "+s))
		}
	}
	for _, s := range []string{"(", ")", ",", "=", "<", "+", "-", "*", "()", "(a", "((a)", "(a b)", "(a,b)", "(a = b = c)", "(a IS NULL IS NULL)", "(NOT a = b = c)", "((NOT a) b)", "((a + b) NOT c)", "()a", "(*)", "(a(", "+ 1", "+1", "= a", "- a", "- 'a'", "- NULL", "- (1)", "--1", "- - 1", "IS NULL", "AND a", "OR a", "9223372036854775808", "-9223372036854775809", "9999999999999999999"} {
		for _, ahead := range []string{"", "(", "((", "a OR ", "a AND ", "a = ", "a < ", "a + ", "a - ", "NOT ", "a OR b AND NOT c = d + ", "(a OR b) = (c - ", "((a) + "} {
			wantNone(t, cut(t, ahead+s))
		}
	}
	for _, ahead := range []string{"a", "1", "'a'", "NULL", "(a)", "a OR b", "a AND b", "NOT a", "a + b", "a - - 1"} {
		for _, s := range []string{"OR", "AND", "=", "<", "IS", "+", "-", "OR OR b", "OR AND b", "OR = b", "AND OR b", "= = b", "< = b", "= < b", "= IS NULL", "= NOT b", "< NOT b", "+ NOT b", "- NOT b", "+ + b", "+ = b", "- + b", "- - b", "- -", "+ -", "OR -", "OR NOT", "AND NOT", "OR NOT NOT", "OR IS NULL", "IS", "IS b", "IS 1", "IS NOT NULL", "IS TRUE", "IS (NULL)", "IS 'NULL'", "OR (b,", "AND (b c", "= ((b", "+ (b = c = d", "- (NOT", "OR (", "OR )", "OR ()", "+ )", "IS )", "+ SELECT", "= WHERE", "- 9223372036854775808", "= 9223372036854775808"} {
			for _, behind := range []string{"", " )", " , c", " SELECT", " *"} {
				wantNone(t, cut(t, ahead+" "+s+behind))
			}
		}
	}
}

// P4.3: what is parsed, but may not be: too deep, or of too many nodes.
func TestParseLimits(t *testing.T) {
	for n := 1; n <= 30; n++ {
		for _, s := range []string{
			strings.Repeat("NOT ", n-1) + "a", "NOT ((a" + strings.Repeat(" + a", max(n, 2)-2) + "))", strings.Repeat("(NOT ", n-1) + "a" + strings.Repeat(")", n-1),
			"a" + strings.Repeat(" + a", n-1), "a" + strings.Repeat(" OR a", n-1), "a" + strings.Repeat(" AND a", n-1), strings.Repeat("(", n-1) + "a" + strings.Repeat(" IS NULL)", n-1), strings.Repeat("(", n-1) + "a" + strings.Repeat(" = a)", n-1),
			strings.Repeat("a - (", n-1) + "a" + strings.Repeat(")", n-1), strings.Repeat("a AND (", n-1) + "a" + strings.Repeat(")", n-1), strings.Repeat("a < (((", n-1) + "a" + strings.Repeat(")))", n-1),
		} {
			wantNodes(t, s, nodesOf(s), n > api.MaxDepth)
		}
	}
	for n := 1; n <= 64; n++ {
		for _, s := range []string{sums(n), "NOT (" + sums(n) + ")", "NOT NOT (" + sums(n) + ")", "(" + sums(n) + ") IS NULL", "(NOT (" + sums(n) + ")) IS NULL", "b < (" + sums(n) + ")", "(NOT (" + sums(n) + ")) + b", "b OR NOT (" + sums(n) + ")"} {
			wantNodes(t, s, nodesOf(s), nodesOf(s) > api.MaxNodes)
		}
	}
}

// wantNodes tells what is wrong with what a text, all of it, is parsed as, that has so many nodes; it is to be none, if it is too great.
func wantNodes(t *testing.T, s string, n int, great bool) {
	t.Helper()
	l := cut(t, s)
	e, took, err := expr.Parse(l)
	if great {
		wantNone(t, l)
	} else if took != len(l) || err != api.OK || !expr.May(e) || nodes(e) != n {
		t.Errorf("Parse(%s): %s, %d, %d", s, told(e), took, err)
	}
}

// nodesOf is how many nodes a text asks for that has neither numbers nor texts: each of its words and signs is one, but that IS NULL is one together.
func nodesOf(s string) int {
	return len(strings.Fields(strings.NewReplacer("(", " ", ")", " ", "IS NULL", "NULL").Replace(s)))
}

// sums is the text of n cols, six of them to a sum, with = between two sums, and these with ANDs between.
func sums(n int) string {
	s := "a"
	for i := 1; i < n; i++ {
		switch {
		case i%6 != 0:
			s += " + a"
		case i%12 != 0:
			s += " = a"
		default:
			s += " AND a"
		}
	}
	return s
}

// nodes is how many nodes an expression has.
func nodes(e api.Expr) int {
	n := 1
	for _, part := range e.L {
		n += nodes(part)
	}
	return n
}

// P4.3, R1: tokens that are very many.
func TestParseMany(t *testing.T) {
	times := func(s string) []api.Token { return slices.Repeat(cut(t, s), 1<<16) }
	closed := append(append(slices.Repeat(times("("), 8), cut(t, "a = 1")...), slices.Repeat(times(")"), 8)...)
	wantParse(t, closed, "(a = 1)", len(closed))
	wantNone(t, closed[:len(closed)-1])
	wantParse(t, append(closed, cut(t, ") OR")...), "(a = 1)", len(closed))
	for _, s := range []string{"(", "NOT", "(NOT", "NOT (", "a +", "a + (", "a OR", "a AND", "(a + 1", "(a = (", "NOT ((", "-", "a -", "a - ("} {
		wantNone(t, times(s))
	}
	for _, s := range []string{"NOT", "(", "a OR"} {
		if _, n, err := expr.Parse(slices.Repeat(cut(t, s), 1<<22)); n != 0 || err != api.ErrParse {
			t.Errorf("Parse of very many times %s: %d, %d", s, n, err)
		}
	}
	wantParse(t, times("a"), "a", 1)
	wantParse(t, times("a = 1"), "(a = 1)", 3)
	wantParse(t, times("a IS NULL"), "(a IS NULL)", 3)
	wantParse(t, times(" ( a ) "), "a", 3)
}

// P4.3: a token that may not be begins no expression, and ends one.
func TestParseStrange(t *testing.T) {
	for _, x := range []api.Token{{}, {Kind: api.Word}, {Kind: api.Word, S: "1a"}, {Kind: api.Word, S: "("}, {Kind: api.Word, S: "abcdefghijklmnopq"}, {Kind: api.Number}, {Kind: api.Number, S: "-1"}, {Kind: api.Number, S: "1_0"}, {Kind: api.Number, S: "0x1"}, {Kind: api.Number, S: "00000000000000000001"}, {Kind: api.String, S: "\n"}, {Kind: api.String, S: strings.Repeat("a", 41)}, {Kind: api.Sign, S: "AND"}, {Kind: api.Sign, S: "a"}, {Kind: api.Word, S: "+"}, {Kind: 5, S: "a"}, {Kind: -1, S: "a"}, {Kind: 0, S: "a"}} {
		wantNone(t, []api.Token{x})
		for _, s := range []string{"NOT", "(", "a +", "a OR", "a IS", "-", "(a"} {
			wantNone(t, append(cut(t, s), x))
		}
		wantParse(t, append(cut(t, "a"), x, api.Token{Kind: api.Word, S: "b"}), "a", 1)
	}
	// Of a String no word is made, and no sign.
	for _, s := range []string{"AND", "+", "(", "NULL", "NOT", "a"} {
		x := api.Token{Kind: api.String, S: s}
		wantParse(t, []api.Token{x, x}, "'"+s+"'", 1)
		wantParse(t, []api.Token{{Kind: api.Word, S: "a"}, x}, "a", 1)
	}
}

// derived is what tokens, all of them, are as one of the levels: or, and, not, comparison, sum, atom, from 0 on. It is told another way than in Parse: by cutting them in two wherever both sides are something.
func derived(l []api.Token, level int) (api.Expr, bool) {
	between := [6]string{"OR", "AND", "", "= <", "+ -", ""}
	switch level {
	case 2:
		if len(l) > 0 && lexer.Is(l[0], "NOT") {
			e, ok := derived(l[1:], 2)
			return op("not", e), ok
		}
	case 3:
		if n := len(l) - 2; n > 0 && lexer.Is(l[n], "IS") && lexer.Is(l[n+1], "NULL") {
			e, ok := derived(l[:n], 4)
			return op("null", e), ok
		}
	case 5:
		return derivedAtom(l)
	}
	for i := len(l) - 2; i > 0; i-- {
		if l[i].Kind == api.String || !slices.Contains(strings.Fields(between[level]), l[i].S) {
			continue
		}
		left := level
		if level == 3 {
			left = 4
		}
		b, ok := derived(l[i+1:], level+1)
		if !ok {
			continue
		}
		if a, ok := derived(l[:i], left); ok {
			return op(strings.ToLower(l[i].S), a, b), true
		}
	}
	return derived(l, level+1)
}

// derivedAtom is what tokens are as an atom.
func derivedAtom(l []api.Token) (api.Expr, bool) {
	n := len(l)
	switch {
	case n > 2 && lexer.Is(l[0], "(") && lexer.Is(l[n-1], ")"):
		return derived(l[1:n-1], 0)
	case n == 2 && lexer.Is(l[0], "-") && l[1].Kind == api.Number:
		return lit(num(-int64(l[1].S[0] - '0'))), true
	case n != 1:
		return api.Expr{}, false
	case l[0].Kind == api.Number:
		return lit(num(int64(l[0].S[0] - '0'))), true
	case l[0].Kind == api.String:
		return lit(text(l[0].S)), true
	case lexer.Is(l[0], "NULL"):
		return lit(api.Value{}), true
	}
	return col(l[0].S), l[0].Kind == api.Word && !slices.Contains(language(), l[0].S)
}

// parsed is what Parse is to answer: the most tokens that are something, unless one stands behind them with which that could go on.
func parsed(l []api.Token) (api.Expr, int) {
	for n := len(l); n > 0; n-- {
		e, ok := derived(l[:n], 0)
		if !ok {
			continue
		}
		if n < len(l) && l[n].Kind != api.String {
			for _, s := range []string{"a", "NULL"} {
				if _, ok := derived(append(slices.Clone(l[:n+1]), api.Token{Kind: api.Word, S: s}), 0); ok {
					return api.Expr{}, 0
				}
			}
		}
		return e, n
	}
	return api.Expr{}, 0
}

// wantParsed tells where Parse and parsed are not at one.
func wantParsed(t *testing.T, l []api.Token) {
	t.Helper()
	want, n := parsed(l)
	e, took, err := expr.Parse(l)
	if (err == api.OK) != (n > 0) || err != api.OK && err != api.ErrParse || took != n || !expr.Same(e, want) {
		t.Fatalf("Parse(%s): %s, %d, %d, want %s, %d", shown(l), told(e), took, err, told(want), n)
	}
}

// P4.3: of all lists of tokens that are short.
func TestParseAll(t *testing.T) {
	for _, c := range []struct {
		s    string
		most int
	}{{"a 1 - + = IS NULL NOT AND OR ( )", 5}, {"a NOT = ( )", 7}, {"1 - + <", 7}, {"a AND OR ( )", 7}, {"a IS NULL = NOT", 6}, {"'+' + a", 6}} {
		octets := cut(t, c.s)
		now := [][]api.Token{nil}
		for range c.most {
			var longer [][]api.Token
			for _, l := range now {
				for _, x := range octets {
					longer = append(longer, append(slices.Clone(l), x))
				}
			}
			for _, l := range longer {
				wantParsed(t, l)
			}
			now = longer
		}
	}
}

// P4.3: of lists that are longer, and made so that many are expressions.
func TestParseLonger(t *testing.T) {
	r := rand.New(rand.NewSource(4))
	atoms := []string{"a", "b", "1", "-2", "'s'", "NULL", "(a)", "((b))", "-", "NOT"}
	between := []string{"OR", "AND", "OR NOT", "AND NOT", "=", "<", "+", "-", "IS NULL OR", "IS NULL", "(", ") =", ""}
	for range 20000 {
		var s []string
		for range 1 + r.Intn(4) {
			atom := atoms[r.Intn(len(atoms))]
			switch r.Intn(5) {
			case 0:
				atom = "( " + atom
			case 1:
				atom += " )"
			}
			s = append(s, atom, between[r.Intn(len(between))])
		}
		wantParsed(t, cut(t, strings.Join(s[:len(s)-r.Intn(2)], " ")))
	}
}

// P4.4: a text's tokens are parsed as the expression was.
func TestRoundTrip(t *testing.T) {
	l := small(col("a"), lit(num(-1)), lit(num(least)), lit(text("it's")), lit(api.Value{}), lit(truth(0)))
	for _, e := range good() {
		l = append(l, e)
	}
	for _, v := range values() {
		l = append(l, lit(v), op("-", lit(v), lit(v)))
	}
	for n := 1; n <= 60; n++ {
		l = append(l, wide(n))
	}
	for _, s := range append(unary(), binary()...) {
		l = append(l, deep(s, 12, 0), deep(s, 12, 1))
	}
	for _, e := range l {
		s, err := expr.Text(e)
		if err != api.OK {
			t.Fatalf("Text(%s): %d", told(e), err)
		}
		tokens := cut(t, s)
		got, n, err := expr.Parse(tokens)
		if err != api.OK || n != len(tokens) || !expr.Same(got, e) {
			t.Fatalf("Parse of %s: %s, %d, %d", s, told(got), n, err)
		}
		if got, n, err := expr.Parse(append(tokens, cut(t, ") , a")...)); err != api.OK || n != len(tokens) || !expr.Same(got, e) {
			t.Fatalf("Parse of %s ) , a: %s, %d, %d", s, told(got), n, err)
		}
	}
}

// R3, and the language's rule 7: what is parsed shares no list with the tokens, nor with what is parsed again.
func TestParseNew(t *testing.T) {
	l := cut(t, "a + 1 = b OR NOT c")
	a, _, _ := expr.Parse(l)
	b, _, _ := expr.Parse(l)
	a.L[0].L[0].L[0].S = "x"
	a.L[1].L[0].S = "y"
	if c, _, _ := expr.Parse(l); !expr.Same(b, c) {
		t.Errorf("Parse shares: %v, %v", b, c)
	}
}
