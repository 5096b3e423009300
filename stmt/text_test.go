package stmt_test

import (
	"math/rand"
	"slices"
	"strings"
	"testing"

	"caddis/api"
	"caddis/expr"
	"caddis/lexer"
	"caddis/stmt"
	"caddis/value"
)

// cut is a text's tokens.
func cut(t *testing.T, s string) []api.Token {
	t.Helper()
	l, e := lexer.Cut(s)
	if e != api.OK {
		t.Fatalf("Cut(%q): %d", s, e)
	}
	return l
}

// P5.1
func TestText(t *testing.T) {
	for _, want := range texts() {
		s := good()[want]
		if got, e := stmt.Text(s); got != want || e != api.OK {
			t.Errorf("Text: %q, %d, want %q", got, e, want)
		}
		if got := wantMay(t, s); got != want {
			t.Errorf("Text: %q, want %q", got, want)
		}
	}
	for _, s := range good() {
		for _, f := range fillers() {
			x := s
			f.fill(&x)
			if got, e := stmt.Text(x); (e == api.OK) != stmt.May(x) || (e == api.OK) != (got != "") || e != api.OK && e != api.ErrArg {
				t.Errorf("Text of %s: %q, %d", told(x), got, e)
			}
		}
	}
}

// textOf is the text of a statement that may be, told another way than in Text: by the words of its tokens, and by the texts of its values and expressions.
func textOf(s api.Stmt) string {
	var l []string
	add := func(words ...string) { l = append(l, words...) }
	optional := func(e api.Expr, ahead, behind string) {
		if e.Op != "" {
			text, _ := expr.Text(e)
			add(strings.Fields(ahead)...)
			add(text)
			add(strings.Fields(behind)...)
		}
	}
	comma := func(i int) {
		if i > 0 {
			add(",")
		}
	}
	switch s.Op {
	case "create":
		add("CREATE", "TABLE", s.Table, "(")
		for _, c := range s.Cols {
			add(c.Name, []string{"", "INT", "TEXT", "BOOL"}[c.Type])
			if c.NotNull {
				add("NOT", "NULL")
			}
			add(",")
		}
		add("KEY", "(", s.Key, ")")
		for _, c := range s.Uniques {
			add(",", "UNIQUE", "(", c, ")")
		}
		for _, r := range s.Refs {
			add(",", "REFERENCES", "(", r.Col, ")", r.Table)
		}
		optional(s.Check, ", CHECK (", ")")
		add(")")
	case "drop":
		add("DROP", "TABLE", s.Table)
	case "insert":
		add("INSERT", "INTO", s.Table, "VALUES", "(")
		for i, v := range s.Row {
			comma(i)
			add(value.Text(v))
		}
		add(")")
	case "update":
		add("UPDATE", s.Table, "SET")
		for i, x := range s.Sets {
			comma(i)
			optional(x.E, x.Name+" =", "")
		}
	case "delete":
		add("DELETE", "FROM", s.Table)
	case "select":
		add("SELECT", "*", "FROM", s.Table)
	case "read", "write":
		add("GRANT", strings.ToUpper(s.Op), "ON", s.Table, "TO", s.Role)
	case "unread", "unwrite":
		add("REVOKE", strings.ToUpper(s.Op[2:]), "ON", s.Table, "FROM", s.Role)
	default:
		add("MIGRATE", strings.ToUpper(s.Op), s.Table, "FROM", s.Other)
		switch s.Op {
		case "copy":
			add("(", strings.Join(s.Names, " , "), ")")
		case "join":
			add(",", s.Role, "ON", s.Key)
		case "group":
			add("BY", s.Names[0], "SUM", s.Names[1])
		}
		optional(s.Check, "CHECK (", ")")
	}
	optional(s.Where, "WHERE", "")
	return strings.Join(l, " ")
}

// random is a statement that may be, whatever its Op; r says what it has.
func random(r *rand.Rand) api.Stmt {
	list := slices.Sorted(func(yield func(string) bool) {
		for o := range ops() {
			if !yield(o) {
				return
			}
		}
	})
	s := api.Stmt{Op: list[r.Intn(len(list))], Table: randomName(r)}
	for _, part := range strings.Fields(ops()[s.Op]) {
		n := 1 + r.Intn(api.MaxCols)
		switch part {
		case "Cols":
			for range n {
				s.Cols = append(s.Cols, api.Column{Name: randomName(r), Type: 1 + r.Intn(3), NotNull: r.Intn(2) == 0})
			}
		case "Key":
			s.Key = randomName(r)
		case "Uniques":
			for range n - 1 {
				s.Uniques = append(s.Uniques, randomName(r))
			}
		case "Refs":
			for range n - 1 {
				s.Refs = append(s.Refs, api.Ref{Col: randomName(r), Table: randomName(r)})
			}
		case "Check":
			if r.Intn(2) == 0 {
				s.Check = randomExpr(r, 4)
			}
		case "Where":
			if r.Intn(2) == 0 {
				s.Where = randomExpr(r, 3)
			}
		case "Row":
			for range 1 + r.Intn(api.MaxRow) {
				s.Row = append(s.Row, randomValue(r))
			}
		case "Sets":
			for range n {
				s.Sets = append(s.Sets, api.Set{Name: randomName(r), E: randomExpr(r, 2)})
			}
		case "Role":
			s.Role = randomName(r)
		case "Other":
			s.Other = randomName(r)
		case "Names":
			if s.Op == "group" {
				n = 2
			}
			for range n {
				s.Names = append(s.Names, randomName(r))
			}
		}
	}
	return s
}

func randomName(r *rand.Rand) string {
	l := []string{"a", "b", "key", "Check", "null", "lit", "t1", "x_y", "abcdefghijklmnop", "INTO1", "S", "admin"}
	return l[r.Intn(len(l))]
}

func randomValue(r *rand.Rand) api.Value {
	l := []api.Value{{}, num(0), num(7), num(-7), num(least), num(most), text(""), text("a"), text("it's"), text("( , )"), text("NULL"), truth(0), truth(1)}
	return l[r.Intn(len(l))]
}

func randomExpr(r *rand.Rand, depth int) api.Expr {
	if depth == 0 || r.Intn(4) == 0 {
		if r.Intn(2) == 0 {
			return col(randomName(r))
		}
		return lit(randomValue(r))
	}
	l := []string{"not", "null", "and", "or", "=", "<", "+", "-"}
	o := l[r.Intn(len(l))]
	e := op(o, randomExpr(r, depth-1))
	if o != "not" && o != "null" {
		e.L = append(e.L, randomExpr(r, depth-1))
	}
	return e
}

// P5.1, and P5.2: texts are parsed as the statements were.
func TestRoundTrip(t *testing.T) {
	r := rand.New(rand.NewSource(52))
	met := map[string]int{}
	for range 20000 {
		s := random(r)
		if got := wantMay(t, s); got != textOf(s) {
			t.Fatalf("Text: %s, want %s", got, textOf(s))
		}
		met[s.Op]++
	}
	for o := range ops() {
		if met[o] < 1000 {
			t.Errorf("of %s only %d", o, met[o])
		}
	}
}

// leaves are the places of an expression's cols and lits.
func leaves(e *api.Expr) []*api.Expr {
	if len(e.L) == 0 {
		return []*api.Expr{e}
	}
	var l []*api.Expr
	for i := range e.L {
		l = append(l, leaves(&e.L[i])...)
	}
	return l
}

// great is an UPDATE of n tokens, from 396 to 405.
func great(n int) api.Stmt {
	s := api.Stmt{Op: "update", Table: "t", Where: wide(9)}
	for range 3 {
		s.Sets = append(s.Sets, api.Set{Name: "a", E: wide(30)})
	}
	// A number below 0 has a token more than a col.
	for _, e := range leaves(&s.Where)[:n-396] {
		*e = lit(num(-1))
	}
	return s
}

// P5.1: MaxTokens of them, and one more.
func TestTextTokens(t *testing.T) {
	for n := 396; n <= 405; n++ {
		s := great(n)
		if n > api.MaxTokens {
			wantNot(t, s)
			wantNone(t, textOf(s))
			continue
		}
		got := wantMay(t, s)
		if l := cut(t, got); len(l) != n {
			t.Fatalf("%d tokens, want %d", len(l), n)
		}
		// Blanks are no tokens.
		if again, e := stmt.Parse(strings.ReplaceAll("\n "+got+"  ", " ", " \n ")); e != api.OK || !stmt.Same(s, again) {
			t.Errorf("Parse of %d tokens with blanks: %d", n, e)
		}
	}
	full := api.Stmt{Op: "update", Table: "t", Where: wide(30)}
	for n := 1; n <= 8; n++ {
		full.Sets = append(full.Sets, api.Set{Name: "a", E: wide(30)})
		if 3+120*n-1+118 <= api.MaxTokens {
			wantMay(t, full)
		} else {
			wantNot(t, full)
		}
	}
}

// P5.1: few tokens may be read as a statement whose text has too many, and too many as one whose text has few.
func TestParseTokens(t *testing.T) {
	for n := 396; n <= 402; n++ {
		s := great(n)
		bare := bareText(s)
		if l := cut(t, bare); len(l) != n-8 {
			t.Fatalf("without brackets %d tokens of %d", len(l), n)
		}
		got, e := stmt.Parse(bare)
		if n <= api.MaxTokens {
			if e != api.OK || !stmt.Same(got, s) {
				t.Errorf("Parse of %d tokens for %d: %d", n-8, n, e)
			}
		} else {
			wantNone(t, bare)
		}
	}
	small := "SELECT * FROM t WHERE "
	for n := 190; n <= 200; n++ {
		s := small + strings.Repeat("(", n) + "a" + strings.Repeat(")", n)
		if got, e := stmt.Parse(s); 2*n+6 > api.MaxTokens {
			wantNone(t, s)
		} else if e != api.OK || !stmt.Same(got, api.Stmt{Op: "select", Table: "t", Where: col("a")}) {
			t.Errorf("Parse of %d tokens: %s, %d", 2*n+6, told(got), e)
		}
	}
	// One more behind MaxTokens of them, whatever it is.
	whole := wantMay(t, great(api.MaxTokens))
	for _, x := range []string{"a", ")", "1", ",", "WHERE", "'", ";"} {
		wantNone(t, whole+" "+x)
	}
}

// bareText is an UPDATE's text without the outer brackets of its expressions.
func bareText(s api.Stmt) string {
	bare := func(e api.Expr) string {
		text, _ := expr.Text(e)
		return text[1 : len(text)-1]
	}
	var l []string
	for _, x := range s.Sets {
		l = append(l, x.Name+" = "+bare(x.E))
	}
	return "UPDATE t SET " + strings.Join(l, " , ") + " WHERE " + bare(s.Where)
}
