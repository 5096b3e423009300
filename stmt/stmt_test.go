package stmt_test

import (
	"fmt"
	"maps"
	"slices"
	"strings"
	"testing"

	"caddis/api"
	"caddis/stmt"
)

const (
	most  = 1<<63 - 1
	least = -1 << 63
)

func num(n int64) api.Value { return api.Value{Kind: api.Int, I: n} }

func text(s string) api.Value { return api.Value{Kind: api.Text, S: s} }

func truth(n int64) api.Value { return api.Value{Kind: api.Bool, I: n} }

func lit(v api.Value) api.Expr { return api.Expr{Op: "lit", V: v} }

func col(s string) api.Expr { return api.Expr{Op: "col", S: s} }

func op(op string, l ...api.Expr) api.Expr { return api.Expr{Op: op, L: l} }

// deep is an expression so deep.
func deep(depth int) api.Expr {
	e := col("a")
	for range depth - 1 {
		e = op("not", e)
	}
	return e
}

// wide is an expression of n cols with signs between, as level as can be: its text has 4n - 3 tokens.
func wide(n int) api.Expr {
	if n == 1 {
		return col("a")
	}
	return op("+", wide(n/2), wide(n-n/2))
}

// language has the words of the language, as the chapters 4 and 5 tell them.
func language() []string {
	return strings.Fields("AND OR NOT IS NULL TRUE FALSE CREATE TABLE INT TEXT BOOL KEY UNIQUE REFERENCES CHECK DROP INSERT INTO VALUES UPDATE SET WHERE DELETE FROM SELECT GRANT READ WRITE ON TO REVOKE MIGRATE COPY JOIN GROUP BY SUM")
}

// ops are the Ops, and the parts that each names beside its Table.
func ops() map[string]string {
	return map[string]string{
		"create": "Cols Key Uniques Refs Check", "drop": "", "insert": "Row", "update": "Sets Where", "delete": "Where", "select": "Where",
		"read": "Role", "write": "Role", "unread": "Role", "unwrite": "Role",
		"copy": "Other Names Check", "join": "Other Key Role Check", "group": "Other Names Check",
	}
}

// good has statements that may be, each Op with and without what may be missing, and their texts as the chapter tells them.
func good() map[string]api.Stmt {
	a, b, c := api.Column{Name: "a", Type: api.Int}, api.Column{Name: "b", Type: api.Text, NotNull: true}, api.Column{Name: "c", Type: api.Bool}
	below, is := op("<", col("a"), lit(num(-5))), op("null", col("b"))
	values := []api.Value{num(1), text("it's"), {}, truth(1), truth(0), num(-5), num(0), text(""), num(least), num(most), text("NULL"), text(strings.Repeat("'", 40))}
	return map[string]api.Stmt{
		"CREATE TABLE t ( a INT , KEY ( a ) )":                                                             {Op: "create", Table: "t", Cols: []api.Column{a}, Key: "a"},
		"CREATE TABLE t ( b TEXT NOT NULL , KEY ( x ) )":                                                   {Op: "create", Table: "t", Cols: []api.Column{b}, Key: "x"},
		"CREATE TABLE t ( a INT , b TEXT NOT NULL , c BOOL , KEY ( c ) )":                                  {Op: "create", Table: "t", Cols: []api.Column{a, b, c}, Key: "c"},
		"CREATE TABLE t ( a INT , a INT , KEY ( a ) , UNIQUE ( a ) )":                                      {Op: "create", Table: "t", Cols: []api.Column{a, a}, Key: "a", Uniques: []string{"a"}},
		"CREATE TABLE t ( a INT , KEY ( a ) , REFERENCES ( b ) u )":                                        {Op: "create", Table: "t", Cols: []api.Column{a}, Key: "a", Refs: []api.Ref{{Col: "b", Table: "u"}}},
		"CREATE TABLE t ( a INT , KEY ( a ) , CHECK ( (a < -5) ) )":                                        {Op: "create", Table: "t", Cols: []api.Column{a}, Key: "a", Check: below},
		"CREATE TABLE t ( a INT , KEY ( a ) , UNIQUE ( b ) , CHECK ( c ) )":                                {Op: "create", Table: "t", Cols: []api.Column{a}, Key: "a", Uniques: []string{"b"}, Check: col("c")},
		"CREATE TABLE t ( c BOOL , KEY ( c ) , REFERENCES ( a ) t , REFERENCES ( b ) v , CHECK ( NULL ) )": {Op: "create", Table: "t", Cols: []api.Column{c}, Key: "c", Refs: []api.Ref{{Col: "a", Table: "t"}, {Col: "b", Table: "v"}}, Check: lit(api.Value{})},
		"CREATE TABLE t ( a INT , b TEXT NOT NULL , KEY ( a ) , UNIQUE ( b ) , UNIQUE ( x ) , REFERENCES ( b ) u , REFERENCES ( y ) v , CHECK ( ((a < -5) OR (b IS NULL)) ) )": {Op: "create", Table: "t", Cols: []api.Column{a, b}, Key: "a", Uniques: []string{"b", "x"}, Refs: []api.Ref{{Col: "b", Table: "u"}, {Col: "y", Table: "v"}}, Check: op("or", below, is)},
		"DROP TABLE t":                                   {Op: "drop", Table: "t"},
		"INSERT INTO t VALUES ( 1 )":                     {Op: "insert", Table: "t", Row: values[:1]},
		"INSERT INTO t VALUES ( 1 , 'it''s' )":           {Op: "insert", Table: "t", Row: values[:2]},
		"INSERT INTO t VALUES ( NULL )":                  {Op: "insert", Table: "t", Row: values[2:3]},
		"INSERT INTO t VALUES ( -5 )":                    {Op: "insert", Table: "t", Row: values[5:6]},
		"INSERT INTO t VALUES ( TRUE , FALSE , -5 , 0 )": {Op: "insert", Table: "t", Row: values[3:7]},
		"INSERT INTO t VALUES ( 1 , 'it''s' , NULL , TRUE , FALSE , -5 , 0 , '' , -9223372036854775808 , 9223372036854775807 , 'NULL' , '" + strings.Repeat("''", 40) + "' )": {Op: "insert", Table: "t", Row: values},
		"UPDATE t SET a = 1":                                                {Op: "update", Table: "t", Sets: []api.Set{{Name: "a", E: lit(num(1))}}},
		"UPDATE t SET a = -5 WHERE b":                                       {Op: "update", Table: "t", Sets: []api.Set{{Name: "a", E: lit(num(-5))}}, Where: col("b")},
		"UPDATE t SET a = (b = c)":                                          {Op: "update", Table: "t", Sets: []api.Set{{Name: "a", E: op("=", col("b"), col("c"))}}},
		"UPDATE t SET a = (a - -5) , b = NULL , a = (b IS NULL)":            {Op: "update", Table: "t", Sets: []api.Set{{Name: "a", E: op("-", col("a"), lit(num(-5)))}, {Name: "b", E: lit(api.Value{})}, {Name: "a", E: is}}},
		"UPDATE t SET a = b , b = a WHERE ((a < -5) AND (NOT (b IS NULL)))": {Op: "update", Table: "t", Sets: []api.Set{{Name: "a", E: col("b")}, {Name: "b", E: col("a")}}, Where: op("and", below, op("not", is))},
		"DELETE FROM t":                                                     {Op: "delete", Table: "t"},
		"DELETE FROM t WHERE (a < -5)":                                      {Op: "delete", Table: "t", Where: below},
		"DELETE FROM t WHERE NULL":                                          {Op: "delete", Table: "t", Where: lit(api.Value{})},
		"SELECT * FROM t":                                                   {Op: "select", Table: "t"},
		"SELECT * FROM t WHERE (k = 1)":                                     {Op: "select", Table: "t", Where: op("=", col("k"), lit(num(1)))},
		"SELECT * FROM t WHERE 'a'":                                         {Op: "select", Table: "t", Where: lit(text("a"))},
		"GRANT READ ON t TO r":                                              {Op: "read", Table: "t", Role: "r"},
		"GRANT WRITE ON t TO r":                                             {Op: "write", Table: "t", Role: "r"},
		"GRANT WRITE ON t TO admin":                                         {Op: "write", Table: "t", Role: "admin"},
		"REVOKE READ ON t FROM r":                                           {Op: "unread", Table: "t", Role: "r"},
		"REVOKE WRITE ON t FROM r":                                          {Op: "unwrite", Table: "t", Role: "r"},
		"MIGRATE COPY u FROM t ( c )":                                       {Op: "copy", Table: "u", Other: "t", Names: []string{"c"}},
		"MIGRATE COPY u FROM u ( c , d , c )":                               {Op: "copy", Table: "u", Other: "u", Names: []string{"c", "d", "c"}},
		"MIGRATE COPY u FROM t ( c ) CHECK ( a )":                           {Op: "copy", Table: "u", Other: "t", Names: []string{"c"}, Check: col("a")},
		"MIGRATE JOIN u FROM t , r ON c":                                    {Op: "join", Table: "u", Other: "t", Key: "c", Role: "r"},
		"MIGRATE JOIN u FROM t , r ON c CHECK ( (a < -5) )":                 {Op: "join", Table: "u", Other: "t", Key: "c", Role: "r", Check: below},
		"MIGRATE GROUP u FROM t BY c SUM d":                                 {Op: "group", Table: "u", Other: "t", Names: []string{"c", "d"}},
		"MIGRATE GROUP u FROM t BY c SUM c CHECK ( (b IS NULL) )":           {Op: "group", Table: "u", Other: "t", Names: []string{"c", "c"}, Check: is},
	}
}

// texts are the texts of good, rising: so each run asks the same in the same order.
func texts() []string { return slices.Sorted(maps.Keys(good())) }

// filler is something that is put into one part of a statement.
type filler struct {
	part string
	fill func(s *api.Stmt)
}

// fillers fill each part that an Op may name, with what may be there and with what is just not empty.
func fillers() []filler {
	l := []filler{
		{"Other", func(s *api.Stmt) { s.Other = "x" }}, {"Other", func(s *api.Stmt) { s.Other = " " }},
		{"Key", func(s *api.Stmt) { s.Key = "x" }}, {"Key", func(s *api.Stmt) { s.Key = "KEY" }},
		{"Role", func(s *api.Stmt) { s.Role = "x" }}, {"Role", func(s *api.Stmt) { s.Role = "\x00" }},
		{"Names", func(s *api.Stmt) { s.Names = []string{"x"} }}, {"Names", func(s *api.Stmt) { s.Names = []string{"x", "y"} }}, {"Names", func(s *api.Stmt) { s.Names = []string{""} }},
		{"Uniques", func(s *api.Stmt) { s.Uniques = []string{"x"} }}, {"Uniques", func(s *api.Stmt) { s.Uniques = []string{""} }},
		{"Cols", func(s *api.Stmt) { s.Cols = []api.Column{{Name: "x", Type: api.Int}} }}, {"Cols", func(s *api.Stmt) { s.Cols = []api.Column{{}} }},
		{"Refs", func(s *api.Stmt) { s.Refs = []api.Ref{{Col: "x", Table: "y"}} }}, {"Refs", func(s *api.Stmt) { s.Refs = []api.Ref{{}} }},
		{"Row", func(s *api.Stmt) { s.Row = []api.Value{num(1)} }}, {"Row", func(s *api.Stmt) { s.Row = []api.Value{{}} }},
		{"Sets", func(s *api.Stmt) { s.Sets = []api.Set{{Name: "x", E: lit(num(1))}} }}, {"Sets", func(s *api.Stmt) { s.Sets = []api.Set{{}} }},
	}
	for _, e := range append(odd(), lit(truth(1)), lit(api.Value{}), col("x")) {
		l = append(l, filler{"Check", func(s *api.Stmt) { s.Check = e }}, filler{"Where", func(s *api.Stmt) { s.Where = e }})
	}
	return l
}

// odd has expressions that may not be, and are not none at all.
func odd() []api.Expr {
	return []api.Expr{{S: "x"}, {V: num(1)}, {V: api.Value{I: 1}}, {V: api.Value{S: "x"}}, {L: []api.Expr{{}}}, {L: []api.Expr{col("x")}}, {Op: "x"}, {Op: "not"}, {Op: "col"}, col("SUM"), col("1a"), lit(api.Value{Kind: 4}), lit(text("\n")), op("not", api.Expr{}), op("and", col("x")), deep(13), wide(31), shared(60), endless()}
}

// shared is an expression whose parts are one list, on every level: laid out it would have more nodes than could be gone through.
func shared(depth int) api.Expr {
	e := col("a")
	for range depth {
		e = op("and", e, e)
	}
	return e
}

// endless is an expression that is a part of its own.
func endless() api.Expr {
	l := make([]api.Expr, 2)
	l[0], l[1] = api.Expr{Op: "or", L: l}, col("a")
	return l[0]
}

// clone is a statement in memory of its own.
func clone(s api.Stmt) api.Stmt {
	s.Names, s.Cols, s.Uniques, s.Refs, s.Row, s.Sets = slices.Clone(s.Names), slices.Clone(s.Cols), slices.Clone(s.Uniques), slices.Clone(s.Refs), slices.Clone(s.Row), slices.Clone(s.Sets)
	s.Check, s.Where = cloneExpr(s.Check), cloneExpr(s.Where)
	for i, x := range s.Sets {
		s.Sets[i].E = cloneExpr(x.E)
	}
	return s
}

func cloneExpr(e api.Expr) api.Expr {
	e.L = slices.Clone(e.L)
	for i, part := range e.L {
		e.L[i] = cloneExpr(part)
	}
	return e
}

// names are the places of a statement's names, in all the parts that are not empty.
func names(s *api.Stmt) []*string {
	l := []*string{&s.Table}
	for _, p := range []*string{&s.Other, &s.Key, &s.Role} {
		if *p != "" {
			l = append(l, p)
		}
	}
	for i := range s.Names {
		l = append(l, &s.Names[i])
	}
	for i := range s.Cols {
		l = append(l, &s.Cols[i].Name)
	}
	for i := range s.Uniques {
		l = append(l, &s.Uniques[i])
	}
	for i := range s.Refs {
		l = append(l, &s.Refs[i].Col, &s.Refs[i].Table)
	}
	for i := range s.Sets {
		l = append(l, &s.Sets[i].Name)
	}
	return l
}

// exprs are the places of a statement's expressions; of its Check and its Where, if they are there.
func exprs(s *api.Stmt) []*api.Expr {
	var l []*api.Expr
	for _, p := range []*api.Expr{&s.Check, &s.Where} {
		if p.Op != "" {
			l = append(l, p)
		}
	}
	for i := range s.Sets {
		l = append(l, &s.Sets[i].E)
	}
	return l
}

// told is how a statement is told of in a message.
func told(s api.Stmt) string {
	if got, e := stmt.Text(s); e == api.OK {
		return got
	}
	// Of what may be without an end no more is told than this.
	return fmt.Sprintf("%.20q %.20q other %.20q names %.20q cols %.20v key %.20q uniques %.20q refs %.20q check %.20q row %.20v sets %d where %.20q role %.20q", s.Op, s.Table, s.Other, s.Names, s.Cols, s.Key, s.Uniques, s.Refs, s.Check.Op, s.Row, len(s.Sets), s.Where.Op, s.Role)
}

// wantMay tells if a statement may not be, or is not parsed as it was; it answers its text.
func wantMay(t *testing.T, s api.Stmt) string {
	t.Helper()
	before := clone(s)
	got, e := stmt.Text(s)
	if !stmt.May(s) || e != api.OK {
		t.Errorf("May, Text of %s: %v, %d", told(s), stmt.May(s), e)
	}
	if again, e := stmt.Parse(got); e != api.OK || !stmt.Same(again, s) || !stmt.Same(s, again) {
		t.Errorf("Parse(%s): %s, %d", got, told(again), e)
	}
	if !stmt.Same(s, before) {
		t.Errorf("%s was changed to %s", told(before), told(s))
	}
	return got
}

// wantNot tells if a statement may be.
func wantNot(t *testing.T, s api.Stmt) {
	t.Helper()
	if got, e := stmt.Text(s); stmt.May(s) || got != "" || e != api.ErrArg {
		t.Errorf("May, Text of %s: %v, %q, %d", told(s), stmt.May(s), got, e)
	}
}

// P5.1
func TestMay(t *testing.T) {
	for _, s := range good() {
		wantMay(t, s)
	}
	for _, o := range []string{"", " ", "CREATE", "Create", "create ", "grant", "revoke", "migrate", "table", "GRANT READ", "copy\x00", strings.Repeat("drop", 1<<16)} {
		wantNot(t, api.Stmt{Op: o})
		for _, s := range good() {
			s.Op = o
			wantNot(t, s)
		}
	}
	for o := range ops() {
		wantNot(t, api.Stmt{Op: o})
		// With a Table alone one is whole that asks no more.
		if s := (api.Stmt{Op: o, Table: "t"}); strings.Contains(" drop delete select ", o) {
			wantMay(t, s)
		} else {
			wantNot(t, s)
		}
	}
}

// P5.1: a statement has just the parts that its Op names.
func TestMayParts(t *testing.T) {
	named := ops()
	met := map[string]int{}
	for _, s := range good() {
		met[s.Op]++
		for i, f := range fillers() {
			if slices.Contains(strings.Fields(named[s.Op]), f.part) {
				continue
			}
			more := s
			f.fill(&more)
			if stmt.May(more) {
				t.Errorf("May of %s with %s, the filler %d: true", told(s), f.part, i)
			}
			wantNot(t, more)
		}
	}
	if len(met) != len(named) {
		t.Errorf("of %d Ops only %d were met", len(named), len(met))
	}
	// What is named may not be missing, but what stands in [ ].
	for o, parts := range named {
		for _, s := range good() {
			if s.Op != o {
				continue
			}
			for _, part := range strings.Fields(parts) {
				less := s
				switch part {
				case "Cols":
					less.Cols = nil
				case "Key":
					less.Key = ""
				case "Row":
					less.Row = nil
				case "Sets":
					less.Sets = nil
				case "Role":
					less.Role = ""
				case "Other":
					less.Other = ""
				case "Names":
					less.Names = nil
				default:
					less.Uniques, less.Refs, less.Check, less.Where = nil, nil, api.Expr{}, api.Expr{}
					wantMay(t, less)
					continue
				}
				wantNot(t, less)
			}
		}
	}
}

// R2: a list without elements is as one that is nil.
func TestMayEmptyLists(t *testing.T) {
	for want, s := range good() {
		more := s
		if more.Names == nil {
			more.Names = []string{}
		}
		if more.Cols == nil {
			more.Cols = []api.Column{}
		}
		if more.Uniques == nil {
			more.Uniques = []string{}
		}
		if more.Refs == nil {
			more.Refs = make([]api.Ref, 0, 5)
		}
		if more.Row == nil {
			more.Row = []api.Value{}
		}
		if more.Sets == nil {
			more.Sets = []api.Set{}
		}
		if more.Check.Op == "" {
			more.Check.L = []api.Expr{}
		}
		if more.Where.Op == "" {
			more.Where.L = make([]api.Expr, 0, 5)
		}
		if got := wantMay(t, more); got != want || !stmt.Same(s, more) || !stmt.Same(more, s) {
			t.Errorf("Text of %s with lists without elements: %s", want, got)
		}
	}
}

// P5.1: each name may be one, and is no word of the language.
func TestMayNames(t *testing.T) {
	wrong := append(language(), "", " ", "1", "1a", "_a", "a b", "a ", " a", "a.", "a,b", "(", "*", "'a'", "\xff", "a\n", "a\x00", "é", "abcdefghijklmnopq", strings.Repeat("a", 1<<16))
	right := []string{"a", "Z", "a_", "A9", "abcdefghijklmnop", "null", "Select", "create", "lit", "col", "admin", "AN", "ANDY", "SUMS", "UNREAD", "INTEGER"}
	for _, s := range good() {
		for i := range names(&s) {
			for _, w := range wrong {
				x := clone(s)
				*names(&x)[i] = w
				wantNot(t, x)
			}
			for _, w := range right {
				x := clone(s)
				*names(&x)[i] = w
				wantMay(t, x)
			}
		}
	}
}

// P5.1: expressions, values and types may be.
func TestMayWithin(t *testing.T) {
	for _, s := range good() {
		for i := range exprs(&s) {
			for _, e := range odd() {
				x := clone(s)
				*exprs(&x)[i] = e
				wantNot(t, x)
			}
			for _, e := range []api.Expr{deep(12), wide(30), lit(num(least)), lit(text("it's")), op("or", lit(truth(0)), op("null", lit(api.Value{})))} {
				x := clone(s)
				*exprs(&x)[i] = e
				wantMay(t, x)
			}
		}
		for i := range s.Sets {
			x := clone(s)
			x.Sets[i].E = api.Expr{}
			wantNot(t, x)
		}
		for i := range s.Row {
			for _, v := range []api.Value{{I: 1}, {S: "a"}, {Kind: api.Int, S: "1"}, {Kind: api.Text, I: 1}, text("\n"), text("\x7f"), text(strings.Repeat("a", 41)), truth(2), truth(-1), {Kind: 4}, {Kind: -1}, {Kind: most}} {
				x := clone(s)
				x.Row[i] = v
				wantNot(t, x)
			}
			for _, v := range []api.Value{{}, num(least), num(-1), num(0), num(most), text(""), text("~"), text("'"), text(strings.Repeat("a", 40)), truth(0), truth(1)} {
				x := clone(s)
				x.Row[i] = v
				wantMay(t, x)
			}
		}
		for i := range s.Cols {
			for _, k := range []int{least, -1, 0, 1, 2, 3, 4, 5, most} {
				x := clone(s)
				x.Cols[i].Type = k
				if k >= 1 && k <= 3 {
					wantMay(t, x)
				} else {
					wantNot(t, x)
				}
			}
		}
	}
}

// P5.1: how many there may be of each list.
func TestMayCounts(t *testing.T) {
	for n := range 30 {
		base := good()["CREATE TABLE t ( a INT , KEY ( a ) )"]
		for _, c := range []struct {
			s           api.Stmt
			least, most int
		}{
			{with(base, func(s *api.Stmt) { s.Cols = slices.Repeat([]api.Column{{Name: "c", Type: api.Bool, NotNull: true}}, n) }), 1, api.MaxCols},
			{with(base, func(s *api.Stmt) { s.Uniques = slices.Repeat([]string{"c"}, n) }), 0, api.MaxCols},
			{with(base, func(s *api.Stmt) { s.Refs = slices.Repeat([]api.Ref{{Col: "c", Table: "u"}}, n) }), 0, api.MaxCols},
			{api.Stmt{Op: "insert", Table: "t", Row: slices.Repeat([]api.Value{num(-1)}, n)}, 1, api.MaxRow},
			{api.Stmt{Op: "insert", Table: "t", Row: slices.Repeat([]api.Value{{}}, n)}, 1, api.MaxRow},
			{api.Stmt{Op: "update", Table: "t", Sets: slices.Repeat([]api.Set{{Name: "c", E: col("c")}}, n)}, 1, api.MaxCols},
			{api.Stmt{Op: "copy", Table: "t", Other: "u", Names: slices.Repeat([]string{"c"}, n)}, 1, api.MaxCols},
			{api.Stmt{Op: "group", Table: "t", Other: "u", Names: slices.Repeat([]string{"c"}, n)}, 2, 2},
		} {
			if c.least <= n && n <= c.most {
				wantMay(t, c.s)
			} else {
				wantNot(t, c.s)
			}
		}
	}
}

// with is a statement that something is done with.
func with(s api.Stmt, f func(s *api.Stmt)) api.Stmt {
	s = clone(s)
	f(&s)
	return s
}

// P5.1: all lists as long as may be at once, with the longest expressions.
func TestMayGreatest(t *testing.T) {
	long := strings.Repeat("a", 16)
	s := api.Stmt{Op: "create", Table: long, Cols: slices.Repeat([]api.Column{{Name: long, Type: api.Text, NotNull: true}}, 8), Key: long, Uniques: slices.Repeat([]string{long}, 8), Refs: slices.Repeat([]api.Ref{{Col: long, Table: long}}, 8), Check: wide(30)}
	wantMay(t, s)
	for _, f := range []func(s *api.Stmt){
		func(s *api.Stmt) { s.Cols = append(s.Cols, s.Cols[0]) }, func(s *api.Stmt) { s.Uniques = append(s.Uniques, long) }, func(s *api.Stmt) { s.Refs = append(s.Refs, s.Refs[0]) },
		func(s *api.Stmt) { s.Cols[7].Type = 4 }, func(s *api.Stmt) { s.Cols[7].Name += "a" }, func(s *api.Stmt) { s.Uniques[7] = "SUM" }, func(s *api.Stmt) { s.Refs[7].Col = "" }, func(s *api.Stmt) { s.Refs[7].Table = "" }, func(s *api.Stmt) { s.Check = wide(31) },
	} {
		wantNot(t, with(s, f))
	}
	wantMay(t, api.Stmt{Op: "insert", Table: long, Row: slices.Repeat([]api.Value{text(strings.Repeat("'", 40))}, 12)})
}

// P5.1, R1: statements that are far too great.
func TestMayEnds(t *testing.T) {
	n := 1 << 18
	for _, s := range []api.Stmt{
		{Op: "create", Table: "t", Cols: slices.Repeat([]api.Column{{Name: "c", Type: 1}}, n), Key: "c"}, {Op: "create", Table: "t", Cols: []api.Column{{Name: "c", Type: 1}}, Key: "c", Uniques: slices.Repeat([]string{"c"}, n)}, {Op: "create", Table: "t", Cols: []api.Column{{Name: "c", Type: 1}}, Key: "c", Refs: slices.Repeat([]api.Ref{{Col: "c", Table: "u"}}, n)},
		{Op: "insert", Table: "t", Row: make([]api.Value, n)}, {Op: "update", Table: "t", Sets: slices.Repeat([]api.Set{{Name: "c", E: shared(60)}}, n)}, {Op: "update", Table: "t", Sets: []api.Set{{Name: "c", E: endless()}}}, {Op: "copy", Table: "t", Other: "u", Names: slices.Repeat([]string{"c"}, n)}, {Op: "drop", Table: strings.Repeat("t", n)}, {Op: strings.Repeat("t", n), Table: "t"},
		{Op: "drop", Table: "t", Where: endless()}, {Op: "select", Table: "t", Where: endless()}, {Op: "select", Table: "t", Check: endless()}, {Op: "x", Table: "t", Check: shared(60)}, {Op: "drop", Table: "t", Sets: []api.Set{{E: endless()}}}, {Op: "delete", Table: "t", Where: deep(1 << 16)}, {Op: "drop", Table: "t", Row: make([]api.Value, n)},
	} {
		wantNot(t, s)
	}
}

// P5.1
func TestSame(t *testing.T) {
	var l []api.Stmt
	for _, s := range good() {
		l = append(l, s)
	}
	whole := api.Stmt{Op: "o", Table: "t", Other: "u", Names: []string{"a", "b"}, Cols: []api.Column{{Name: "c", Type: 1}, {Name: "d", Type: 2}}, Key: "k", Uniques: []string{"e", "f"}, Refs: []api.Ref{{Col: "g", Table: "h"}, {Col: "i", Table: "j"}}, Check: op("x", col("l"), op("y")), Row: []api.Value{num(1), text("m")}, Sets: []api.Set{{Name: "n", E: col("p")}, {Name: "q", E: lit(num(1))}}, Where: col("r"), Role: "s"}
	l = append(l, whole, api.Stmt{}, api.Stmt{Op: "NULL"}, api.Stmt{Table: "NULL"})
	for _, f := range []func(s *api.Stmt){
		func(s *api.Stmt) { s.Op = "" }, func(s *api.Stmt) { s.Table = "T" }, func(s *api.Stmt) { s.Other = "" }, func(s *api.Stmt) { s.Key = "" }, func(s *api.Stmt) { s.Role = "k" }, func(s *api.Stmt) { s.Role, s.Key = s.Key, s.Role }, func(s *api.Stmt) { s.Table, s.Other = s.Other, s.Table },
		func(s *api.Stmt) { s.Names = nil }, func(s *api.Stmt) { s.Names[1] = "B" }, func(s *api.Stmt) { s.Names = s.Names[:1] }, func(s *api.Stmt) { s.Names[0], s.Names[1] = "b", "a" }, func(s *api.Stmt) { s.Names = append(s.Names, "") }, func(s *api.Stmt) { s.Names, s.Uniques = s.Uniques, s.Names },
		func(s *api.Stmt) { s.Cols = nil }, func(s *api.Stmt) { s.Cols[1].Name = "c" }, func(s *api.Stmt) { s.Cols[0].Type = 3 }, func(s *api.Stmt) { s.Cols[1].NotNull = true }, func(s *api.Stmt) { s.Cols = s.Cols[:1] }, func(s *api.Stmt) { s.Cols = append(s.Cols, api.Column{}) },
		func(s *api.Stmt) { s.Uniques = nil }, func(s *api.Stmt) { s.Uniques[0] = "" }, func(s *api.Stmt) { s.Uniques = s.Uniques[1:] },
		func(s *api.Stmt) { s.Refs = nil }, func(s *api.Stmt) { s.Refs[1].Col = "" }, func(s *api.Stmt) { s.Refs[0].Table = "j" }, func(s *api.Stmt) { s.Refs = s.Refs[:1] },
		func(s *api.Stmt) { s.Check = api.Expr{} }, func(s *api.Stmt) { s.Check.L[1].Op = "z" }, func(s *api.Stmt) { s.Check.S = "z" }, func(s *api.Stmt) { s.Check.L = s.Check.L[:1] }, func(s *api.Stmt) { s.Check, s.Where = s.Where, s.Check },
		func(s *api.Stmt) { s.Row = nil }, func(s *api.Stmt) { s.Row[0].I = 2 }, func(s *api.Stmt) { s.Row[0].Kind = 3 }, func(s *api.Stmt) { s.Row[1].S = "" }, func(s *api.Stmt) { s.Row = append(s.Row, api.Value{}) },
		func(s *api.Stmt) { s.Sets = nil }, func(s *api.Stmt) { s.Sets[1].Name = "" }, func(s *api.Stmt) { s.Sets[0].E = col("q") }, func(s *api.Stmt) { s.Sets[1].E.V.I = 2 }, func(s *api.Stmt) { s.Sets = s.Sets[:1] }, func(s *api.Stmt) { s.Sets[0], s.Sets[1] = s.Sets[1], s.Sets[0] },
		func(s *api.Stmt) { s.Where = api.Expr{} }, func(s *api.Stmt) { s.Where.S = "R" }, func(s *api.Stmt) { s.Where.V.S = "R" },
	} {
		l = append(l, with(whole, f))
	}
	var again []api.Stmt
	for _, s := range l {
		again = append(again, clone(s))
	}
	for i, a := range l {
		for j, b := range again {
			if got := stmt.Same(a, b); got != (i == j) {
				t.Errorf("Same of the statements %d, %d: %v: %s, %s", i, j, got, told(a), told(b))
			}
		}
	}
	if a, b := (api.Stmt{Op: "x", Check: deep(1 << 16)}), (api.Stmt{Op: "x", Check: deep(1<<16 - 1)}); !stmt.Same(a, a) || stmt.Same(a, b) || stmt.Same(b, a) {
		t.Error("Same of deep ones")
	}
}
