package expr_test

import (
	"slices"
	"strconv"
	"strings"
	"testing"

	"caddis/api"
	"caddis/expr"
)

const (
	most  = 1<<63 - 1
	least = -1 << 63
)

func num(n int64) api.Value { return api.Value{Kind: api.Int, I: n} }

func text(s string) api.Value { return api.Value{Kind: api.Text, S: s} }

func truth(n int64) api.Value { return api.Value{Kind: api.Bool, I: n} }

func lit(v api.Value) api.Expr { return api.Expr{Op: "lit", V: v} }

func col(s string) api.Expr { return api.Expr{Op: "col", S: s} }

func op(op string, l ...api.Expr) api.Expr { return api.Expr{Op: op, L: l} }

// unary and binary are the Ops that have one part, and two.
func unary() []string { return []string{"not", "null"} }

func binary() []string { return []string{"and", "or", "=", "<", "+", "-"} }

// language has the words of the language, as the chapters 4 and 5 tell them.
func language() []string {
	return strings.Fields("AND OR NOT IS NULL TRUE FALSE CREATE TABLE INT TEXT BOOL KEY UNIQUE REFERENCES CHECK DROP INSERT INTO VALUES UPDATE SET WHERE DELETE FROM SELECT GRANT READ WRITE ON TO REVOKE MIGRATE COPY JOIN GROUP BY SUM")
}

// values has values that may be, of each kind.
func values() []api.Value {
	return []api.Value{{}, num(least), num(-1), num(0), num(1), num(2), num(most), text(""), text("a"), text("it's"), text("NULL"), text(strings.Repeat("'", 40)), truth(0), truth(1)}
}

// good has expressions that may be, and their texts as the chapter tells them.
func good() map[string]api.Expr {
	a, b, one := col("a"), col("b"), lit(num(1))
	return map[string]api.Expr{
		"NULL": lit(api.Value{}), "0": lit(num(0)), "-5": lit(num(-5)), "9223372036854775807": lit(num(most)), "-9223372036854775808": lit(num(least)),
		"''": lit(text("")), "'it''s'": lit(text("it's")), "'a'": lit(text("a")), "'a + 1'": lit(text("a + 1")), "TRUE": lit(truth(1)), "FALSE": lit(truth(0)),
		"a": a, "A_9": col("A_9"), "abcdefghijklmnop": col("abcdefghijklmnop"), "and": col("and"), "null": col("null"), "True": col("True"), "ANDY": col("ANDY"), "lit": col("lit"), "not": col("not"),
		"(NOT a)": op("not", a), "(a IS NULL)": op("null", a), "(NULL IS NULL)": op("null", lit(api.Value{})),
		"(a AND b)": op("and", a, b), "(a OR b)": op("or", a, b), "(a = b)": op("=", a, b), "(a < b)": op("<", a, b), "(a + b)": op("+", a, b), "(a - b)": op("-", a, b),
		"(a - -5)": op("-", a, lit(num(-5))), "(-5 - a)": op("-", lit(num(-5)), a), "(a - (b - 1))": op("-", a, op("-", b, one)), "((a - b) - 1)": op("-", op("-", a, b), one),
		"((NOT a) IS NULL)": op("null", op("not", a)), "(NOT (a IS NULL))": op("not", op("null", a)), "(NOT (NOT a))": op("not", op("not", a)), "((a IS NULL) IS NULL)": op("null", op("null", a)),
		"((a = 1) OR (b IS NULL))": op("or", op("=", a, one), op("null", b)), "((a OR b) AND (NOT (a < (b + 1))))": op("and", op("or", a, b), op("not", op("<", a, op("+", b, one)))),
		"((a = b) = (a < 1))": op("=", op("=", a, b), op("<", a, one)), "(TRUE AND 'a')": op("and", lit(truth(1)), lit(text("a"))),
	}
}

// bad has expressions that may not be.
func bad() []api.Expr {
	a := col("a")
	l := []api.Expr{
		{}, {Op: "LIT"}, {Op: "AND", L: []api.Expr{a, a}}, {Op: "*", L: []api.Expr{a, a}}, {Op: "null "}, {V: num(1)}, {S: "a"}, {L: []api.Expr{a}},
		lit(api.Value{Kind: 4}), lit(api.Value{I: 1}), lit(api.Value{Kind: api.Bool, I: 2}), lit(text("\n")), lit(text(strings.Repeat("a", 41))), lit(api.Value{Kind: api.Int, S: "1"}),
		{Op: "lit", V: num(1), S: "a"}, {Op: "lit", V: num(1), L: []api.Expr{a}}, {Op: "lit", S: "a"},
		{Op: "col"}, {Op: "col", S: "a", V: num(1)}, {Op: "col", S: "a", V: truth(0)}, {Op: "col", S: "a", V: api.Value{S: "b"}}, {Op: "col", S: "a", L: []api.Expr{a}},
		col("1a"), col("_a"), col("a b"), col("a."), col("abcdefghijklmnopq"), col("\xff"), col("("), col(" a"),
	}
	for _, s := range language() {
		l = append(l, col(s))
	}
	for _, s := range unary() {
		l = append(l, op(s), op(s, a, a), op(s, a, a, a), op(s, api.Expr{}), op(s, col("NULL")), api.Expr{Op: s, S: "a", L: []api.Expr{a}}, api.Expr{Op: s, V: num(1), L: []api.Expr{a}}, api.Expr{Op: s, V: api.Value{Kind: api.Bool}, L: []api.Expr{a}})
	}
	for _, s := range binary() {
		l = append(l, op(s), op(s, a), op(s, a, a, a), op(s, api.Expr{}, a), op(s, a, api.Expr{}), op(s, a, lit(text("\n"))), api.Expr{Op: s, S: "a", L: []api.Expr{a, a}}, api.Expr{Op: s, V: num(1), L: []api.Expr{a, a}}, api.Expr{Op: s, V: api.Value{I: 1}, L: []api.Expr{a, a}})
	}
	for _, e := range l {
		l = append(l, op("not", e), op("=", a, op("null", e)), op("or", e, a))
	}
	return append(l, deep("not", 13, 0), deep("null", 100, 0), deep("and", 13, 0), deep("-", 13, 1), wide(61), wide(62), wide(1000))
}

// deep is an expression of one Op, so deep, whose part at the place goes down.
func deep(s string, depth, at int) api.Expr {
	e := col("a")
	for range depth - 1 {
		l := []api.Expr{col("a"), col("a")}
		l[at] = e
		if slices.Contains(unary(), s) {
			l = []api.Expr{e}
		}
		e = api.Expr{Op: s, L: l}
	}
	return e
}

// wide is an expression of n nodes that is as level as can be.
func wide(n int) api.Expr {
	switch n {
	case 1:
		return col("a")
	case 2:
		return op("not", col("a"))
	}
	return op("and", wide((n-1)/2), wide(n-1-(n-1)/2))
}

// shared is an expression whose parts are one list, on every level: laid out it would have more nodes than could be gone through.
func shared(depth int) api.Expr {
	e := col("a")
	for range depth {
		e = op("and", e, e)
	}
	return e
}

// endless is an expression that is a part of its own.
func endless() api.Expr {
	l := make([]api.Expr, 2)
	l[0], l[1] = api.Expr{Op: "or", L: l}, col("a")
	return l[0]
}

// P4.1
func TestReserved(t *testing.T) {
	for _, s := range language() {
		if !expr.Reserved(s) {
			t.Errorf("Reserved(%q): false", s)
		}
		for _, w := range []string{strings.ToLower(s), s[:1] + strings.ToLower(s[1:]), s + "S", s + " ", " " + s, "X" + s, s + "\x00", s + " AND"} {
			if expr.Reserved(w) {
				t.Errorf("Reserved(%q): true", w)
			}
		}
	}
	for _, s := range []string{"", "a", "k", " ", "create", "lit", "col", "=", "<", "+", "-", "(", "1", "AN", "A", "N", "admin", "AND OR", "UNREAD", "INTEGER", "COLUMN", "LIKE", "HAVING", "REFERENCE", "VALUE", "GRANTS", strings.Repeat("AND", 1<<16)} {
		if expr.Reserved(s) {
			t.Errorf("Reserved(%q): true", s)
		}
	}
}

// P4.1
func TestMay(t *testing.T) {
	for s, e := range good() {
		if !expr.May(e) {
			t.Errorf("May of %s: false", s)
		}
		e.L = append([]api.Expr{}, e.L...)
		if !expr.May(e) {
			t.Errorf("May of %s, without parts a list: false", s)
		}
	}
	for _, e := range bad() {
		if expr.May(e) {
			t.Errorf("May(%s): true", told(e))
		}
	}
	for _, v := range values() {
		if !expr.May(lit(v)) {
			t.Errorf("May of a lit of %v: false", v)
		}
	}
}

// P4.1: MaxDepth, and one more, of each Op, to either side.
func TestMayDepth(t *testing.T) {
	for _, s := range append(unary(), binary()...) {
		for at := range 2 {
			for n := 1; n <= 30; n++ {
				if got := expr.May(deep(s, n, at)); got != (n <= api.MaxDepth) {
					t.Errorf("May of %s, %d deep: %v", s, n, got)
				}
			}
		}
	}
}

// P4.1: MaxNodes, and one more.
func TestMayNodes(t *testing.T) {
	for n := 1; n <= 200; n++ {
		if got := expr.May(wide(n)); got != (n <= api.MaxNodes) {
			t.Errorf("May of %d nodes: %v", n, got)
		}
	}
	// All nodes count, whichever side they stand on.
	for n := range 62 {
		for _, e := range []api.Expr{op("=", wide(n+1), col("b")), op("=", col("b"), wide(n+1))} {
			if got := expr.May(e); got != (n+3 <= api.MaxNodes) {
				t.Errorf("May of %d nodes: %v", n+3, got)
			}
		}
	}
}

// P4.1, R1: expressions that are far too great.
func TestMayEnds(t *testing.T) {
	for _, e := range []api.Expr{shared(60), endless(), op("not", endless()), deep("not", 1<<16, 0), deep("or", 1<<16, 0), deep("or", 1<<16, 1), op("and", make([]api.Expr, 1<<16)...), op("not", slices.Repeat([]api.Expr{col("a")}, 1<<16)...)} {
		_, typed := expr.Type(e, nil)
		_, told := expr.Text(e)
		if expr.May(e) || typed != api.ErrArg || told != api.ErrArg || expr.Eval(e, nil, nil) != (api.Value{}) {
			t.Errorf("of a great %s: %d, %d", e.Op, typed, told)
		}
	}
}

// P4.1
func TestSame(t *testing.T) {
	var l []api.Expr
	for _, e := range good() {
		l = append(l, e)
	}
	l = append(l, bad()[:17]...)
	l = append(l, deep("not", 1<<16, 0), deep("not", 1<<16-1, 0), deep("or", 1<<16, 1), wide(1000), wide(999))
	var again []api.Expr
	for _, e := range l {
		again = append(again, clone(e))
	}
	for i, a := range l {
		for j, b := range again {
			if got := expr.Same(a, b); got != (i == j) {
				t.Errorf("Same of the expressions %d, %d: %v", i, j, got)
			}
		}
	}
	for _, c := range [][2]api.Expr{
		{col("a"), {Op: "col", S: "a", L: []api.Expr{}}}, {op("not"), {Op: "not", L: nil}},
	} {
		if !expr.Same(c[0], c[1]) || !expr.Same(c[1], c[0]) {
			t.Errorf("Same(%s, %s): false", told(c[0]), told(c[1]))
		}
	}
	a, b := col("a"), col("b")
	for _, c := range [][2]api.Expr{
		{a, b}, {a, lit(text("a"))}, {lit(num(1)), lit(num(2))}, {lit(num(1)), lit(truth(1))}, {lit(text("")), lit(api.Value{})}, {lit(text("a")), lit(text("A"))},
		{op("=", a, b), op("=", b, a)}, {op("=", a, b), op("<", a, b)}, {op("=", a, b), op("=", a)}, {op("=", a, b), op("=", a, b, b)}, {op("=", a, a), op("=", a, b)}, {op("=", a, a), op("=", b, a)}, {op("not", a), a}, {op("not", a), op("null", a)},
		{{Op: "col", S: "a", V: num(1)}, a}, {{Op: "not", S: "a", L: []api.Expr{a}}, op("not", a)}, {{}, a}, {{}, op("")},
		{op("not", op("not", a)), op("not", op("not", b))}, {op("and", a, op("or", a, a)), op("and", a, op("or", a, b))},
	} {
		if got := expr.Same(c[0], c[1]); got != (c[0].Op == "" && c[1].Op == "") {
			t.Errorf("Same(%s, %s): %v", told(c[0]), told(c[1]), got)
		}
	}
}

// clone is an expression in memory of its own.
func clone(e api.Expr) api.Expr {
	if e.L != nil {
		l := make([]api.Expr, len(e.L))
		for i, part := range e.L {
			l[i] = clone(part)
		}
		e.L = l
	}
	return e
}

// P4.1
func TestColumns(t *testing.T) {
	a, b, c := col("a"), col("b"), col("c")
	for _, x := range []struct {
		e    api.Expr
		want string
	}{
		{a, "a"}, {lit(num(1)), ""}, {lit(text("a")), ""}, {lit(api.Value{}), ""}, {op("not", a), "a"}, {op("null", lit(num(1))), ""},
		{op("=", a, b), "a b"}, {op("=", b, a), "b a"}, {op("=", a, a), "a"}, {op("or", op("and", b, a), c), "b a c"}, {op("or", c, op("and", b, a)), "c b a"}, {op("or", op("=", a, b), op("=", b, c)), "a b c"},
		{op("and", op("<", lit(num(1)), c), op("not", op("null", op("+", a, c)))), "c a"}, {op("+", col("A"), a), "A a"}, {wide(60), "a"}, {deep("not", 12, 0), "a"},
		{api.Expr{Op: "not", S: "x", L: []api.Expr{a}}, "a"}, {api.Expr{Op: "lit", S: "x", V: num(1)}, ""}, {api.Expr{Op: "col", S: "b", V: num(1), L: []api.Expr{a, b}}, "b a"},
		{api.Expr{}, ""}, {op("not"), ""}, {op("*", b, a, c), "b a c"}, {deep("or", 1<<16, 0), "a"}, {wide(5000), "a"},
	} {
		before := clone(x.e)
		if got := expr.Columns(x.e); !slices.Equal(got, strings.Fields(x.want)) {
			t.Errorf("Columns(%s): %v, want %s", told(x.e), got, x.want)
		}
		if !expr.Same(x.e, before) {
			t.Errorf("Columns changed %s", told(before))
		}
	}
	var l []api.Expr
	var want []string
	for i := range 1 << 17 {
		name := "c" + strconv.Itoa(i/2)
		l = append(l, col(name))
		if i%2 == 0 {
			want = append(want, name)
		}
	}
	if got := expr.Columns(op("and", l...)); !slices.Equal(got, want) {
		t.Errorf("Columns of very many: %d", len(got))
	}
}
