package rel_test

import (
	"slices"
	"strings"
	"testing"

	"caddis/api"
	"caddis/rel"
	"caddis/schema"
	"caddis/stmt"
	"caddis/value"
)

func num(n int64) api.Value { return api.Value{Kind: api.Int, I: n} }

func text(s string) api.Value { return api.Value{Kind: api.Text, S: s} }

func truth(n int64) api.Value { return api.Value{Kind: api.Bool, I: n} }

// parsed is a text's statement.
func parsed(t testing.TB, s string) api.Stmt {
	t.Helper()
	x, e := stmt.Parse(s)
	if e != api.OK {
		t.Fatalf("%s is no statement", s)
	}
	return x
}

// table is the table t of what stands in a create's ( and ).
func table(t testing.TB, s string) api.Table {
	t.Helper()
	x, e := schema.Of(parsed(t, "CREATE TABLE t ("+s+")"))
	if e != api.OK {
		t.Fatalf("%s is no table: %d", s, e)
	}
	return x
}

// cond is a condition's expression.
func cond(t testing.TB, s string) api.Expr {
	t.Helper()
	return parsed(t, "SELECT * FROM t WHERE "+s).Where
}

// rows are rows as an INSERT has them, with a ; between each two.
func rows(t testing.TB, s string) [][]api.Value {
	t.Helper()
	var l [][]api.Value
	for _, row := range strings.Split(s, ";") {
		if strings.TrimSpace(row) != "" {
			l = append(l, parsed(t, "INSERT INTO t VALUES ("+row+")").Row)
		}
	}
	return l
}

// made is a table with rows.
func made(t testing.TB, s, r string) api.Rel {
	t.Helper()
	return api.Rel{T: table(t, s), Rows: rows(t, r)}
}

// told is rows as they are written, with a ; between each two.
func told(l [][]api.Value) string {
	var s []string
	for _, row := range l {
		var r []string
		for _, v := range row {
			r = append(r, value.Text(v))
		}
		s = append(s, strings.Join(r, ", "))
	}
	return strings.Join(s, "; ")
}

// counted is rows of the keys 1 to n, and NULL behind each key.
func counted(n int) [][]api.Value {
	var l [][]api.Value
	for i := range n {
		l = append(l, []api.Value{num(int64(i + 1)), {}})
	}
	return l
}

// strange has values that may not be.
func strange() []api.Value {
	return []api.Value{{Kind: 4}, {Kind: -1}, {I: 1}, {S: "a"}, {Kind: api.Int, I: 2, S: "a"}, {Kind: api.Text, I: 1, S: "a"}, text(strings.Repeat("z", api.MaxText+1)), text("\n"), truth(2), {Kind: api.Bool, I: 1, S: "a"}}
}

// far has places that are none of any table.
func far() []int {
	return []int{-1, -2, -1 << 31, -1 << 63, api.MaxCols, 1 << 31, 1 << 32, 1<<63 - 1}
}

// noTables are tables that may not be; the first place is their key's.
func noTables(t testing.TB) []api.Table {
	var l []api.Table
	for _, change := range []func(x *api.Table){
		func(x *api.Table) { x.Name = "" },
		func(x *api.Table) { x.Name = "KEY" },
		func(x *api.Table) { x.Cols[0].NotNull = false },
		func(x *api.Table) { x.Cols[1].Name = "k" },
		func(x *api.Table) { x.Cols[1].Type = 4 },
		func(x *api.Table) { x.Uniques = []int{2} },
		func(x *api.Table) { x.Uniques = []int{-1} },
		func(x *api.Table) { x.Refs = []api.Foreign{{Col: 2, Table: "u"}} },
		func(x *api.Table) { x.Refs = []api.Foreign{{Col: 0, Table: "1"}} },
		func(x *api.Table) { x.Check = cond(t, "k") },
		func(x *api.Table) { x.Check = cond(t, "z") },
		func(x *api.Table) { x.Check = api.Expr{S: "k"} },
	} {
		x := table(t, "k INT, s TEXT, KEY (k)")
		change(&x)
		l = append(l, x)
	}
	return l
}

// rels are tables with rows no two of which are the same, made anew by each call; not all may be.
func rels(t testing.TB) []api.Rel {
	const full = "k INT, s TEXT, b BOOL, KEY (k), UNIQUE (s), REFERENCES (s) u, CHECK (k < 9 OR b)"
	l := []api.Rel{{}, {Rows: [][]api.Value{nil}}, {Rows: [][]api.Value{nil, nil}}, {Rows: [][]api.Value{{{}}}}, {Rows: [][]api.Value{{{}, {}}}}, {Rows: [][]api.Value{{{}}, {}}}, {Rows: [][]api.Value{{}, {{}}}}}
	for _, s := range []string{"k INT, KEY (k)", "k TEXT, KEY (k)", "s TEXT, k INT, KEY (k)", full, strings.Replace(full, "9", "8", 1), strings.Replace(full, "UNIQUE (s)", "UNIQUE (b)", 1), strings.Replace(full, ") u", ") v", 1), strings.Replace(full, "TEXT", "TEXT NOT NULL", 1)} {
		for _, r := range []string{"", "1", "2", "1; 2", "2; 1", "1; 1", "1, 'a', TRUE", "1, 'a', FALSE", "1, NULL, TRUE", "1, '', TRUE", "1, 'a', TRUE; 2, 'b', NULL", "1, 'a', TRUE; 2, 'b', NULL; 2, 'b', NULL"} {
			l = append(l, made(t, s, r))
		}
	}
	for _, v := range strange() {
		l = append(l, api.Rel{T: table(t, full), Rows: [][]api.Value{{v, v, {}}}})
	}
	for _, x := range noTables(t) {
		l = append(l, api.Rel{T: x, Rows: rows(t, "1, 'a'; 2, NULL")})
	}
	return append(l, api.Rel{T: table(t, full), Rows: counted(api.MaxRows)}, api.Rel{T: table(t, full), Rows: counted(api.MaxRows + 1)})
}

// P7.3: each is the same as itself, made anew, and no other one is.
func TestSame(t *testing.T) {
	l, again := rels(t), rels(t)
	for i, a := range l {
		for j, b := range again {
			if rel.Same(a, b) != (i == j) {
				t.Errorf("Same of %d and %d: %v", i, j, i != j)
			}
		}
	}
}

// R2: a list that is nil and one without elements are the same.
func TestSameNone(t *testing.T) {
	nils, empty := api.Rel{Rows: [][]api.Value{nil}}, api.Rel{Rows: [][]api.Value{{}}}
	empty.T = api.Table{Cols: []api.Column{}, Uniques: []int{}, Refs: []api.Foreign{}, Check: api.Expr{L: []api.Expr{}}}
	for _, c := range [][2]api.Rel{{nils, empty}, {empty, nils}, {{}, {Rows: [][]api.Value{}}}, {{Rows: [][]api.Value{}}, {}}, {rel.Copy(nils), empty}, {rel.Copy(empty), nils}} {
		if !rel.Same(c[0], c[1]) {
			t.Errorf("%v and %v are the same", c[0], c[1])
		}
	}
}

// P7.3: a copy is the same, and what it was made of stays.
func TestCopy(t *testing.T) {
	again := rels(t)
	for i, x := range rels(t) {
		if !rel.Same(rel.Copy(x), again[i]) || !rel.Same(x, again[i]) {
			t.Errorf("the copy of %d: %v", i, rel.Copy(x))
		}
	}
}

// full is a table with rows that may be, with something in each part, made anew by each call.
func full(t testing.TB) api.Rel {
	return made(t, "k INT, s TEXT, KEY (k), UNIQUE (s), REFERENCES (s) u, CHECK (k < 9 OR NOT s IS NULL)", "1, 'a'; 2, NULL; 3, 'c'")
}

// spoilt has each list of a table with rows changed in place.
func spoilt(x api.Rel) {
	x.T.Cols[1].Name, x.T.Uniques[0], x.T.Refs[0].Table = "z", 0, "z"
	x.T.Check.L[0].L[0].S, x.T.Check.L[1].L[0].L[0].S = "z", "z"
	x.T.Check.L[0].L[1], x.T.Check.L[1].Op = api.Expr{}, "z"
	x.Rows[0][0], x.Rows[2][1] = num(9), num(9)
	x.Rows[1] = nil
	_, _, _ = append(x.T.Cols[:1], api.Column{}), append(x.Rows[:1], nil), append(x.Rows[0][:1], num(9))
}

// P7.3, R3: a copy, and what is sorted, is in memory of its own.
func TestOwn(t *testing.T) {
	for name, f := range map[string]func(x api.Rel) api.Rel{"Copy": rel.Copy, "Sort": rel.Sort} {
		x := full(t)
		y := f(x)
		spoilt(y)
		if !rel.Same(x, full(t)) {
			t.Errorf("%s has a part of what was handed in", name)
		}
		y = f(x)
		spoilt(x)
		if !rel.Same(y, full(t)) {
			t.Errorf("what was handed in has a part of what %s answered", name)
		}
		row := []api.Value{num(1), {}}
		y = f(api.Rel{T: full(t).T, Rows: [][]api.Value{row, row}})
		y.Rows[0][1] = text("z")
		if y.Rows[1][1] != (api.Value{}) {
			t.Errorf("two rows that %s answered are one", name)
		}
	}
}

// R3: what is handed in is not changed.
func TestLeftAlone(t *testing.T) {
	again := rels(t)
	e := cond(t, "k < 2 AND NOT s IS NULL")
	for i, x := range rels(t) {
		rel.Check(x)
		rel.Find(x, num(2))
		rel.Where(x, e)
		rel.Where(x, api.Expr{})
		rel.Sort(x)
		rel.Has(x, 1, text("a"))
		rel.Same(x, x)
		if !rel.Same(x, again[i]) {
			t.Errorf("%d was changed", i)
		}
	}
}

// R1: very many rows, and parts that are very deep.
func TestGreat(t *testing.T) {
	x := full(t)
	x.Rows = counted(1 << 17)
	y := rel.Copy(x)
	slices.Reverse(y.Rows)
	if rel.Check(x) != api.ErrFull || rel.Same(x, y) || !rel.Same(rel.Sort(y), x) {
		t.Error("very many rows, sorted")
	}
	if rel.Find(x, num(1<<17)) != 1<<17-1 || !rel.Has(x, 0, num(1<<17)) || rel.Has(x, 1, num(1)) {
		t.Error("very many rows, gone through")
	}
	if l, e := rel.Where(x, cond(t, "k < 1000")); e != api.OK || len(l) != 999 {
		t.Errorf("Where: %d rows, %d", len(l), e)
	}
	x = full(t)
	for range 1<<16 - 1 {
		x.T.Check = api.Expr{Op: "not", L: []api.Expr{x.T.Check}}
	}
	if !rel.Same(rel.Copy(x), x) || !rel.Same(rel.Sort(x), x) || rel.Check(x) != api.ErrArg || rel.Find(x, num(1)) != -1 || !rel.Has(x, 0, num(1)) {
		t.Error("a check that is very deep")
	}
	if l, e := rel.Where(full(t), x.T.Check); e != api.ErrArg || len(l) != 0 {
		t.Errorf("Where of a condition that is very deep: %d", e)
	}
	x = full(t)
	x.T.Uniques = slices.Repeat([]int{1}, 1<<17)
	if rel.Check(x) != api.OK {
		t.Error("very many Uniques of one column")
	}
}
