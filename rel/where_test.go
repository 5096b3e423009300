package rel_test

import (
	"slices"
	"strings"
	"testing"

	"caddis/api"
	"caddis/expr"
	"caddis/rel"
	"caddis/value"
)

// P7.2: the first row that has the value in its key's place.
func TestFind(t *testing.T) {
	const first, second = "k INT, n INT, KEY (k)", "n INT, k INT, KEY (k)"
	for _, c := range []struct {
		table, rows, key string
		want             int
	}{
		{first, "", "1", -1},
		{first, "1, 9; 2, 8; 3, 7", "1", 0},
		{first, "1, 9; 2, 8; 3, 7", "2", 1},
		{first, "1, 9; 2, 8; 3, 7", "3", 2},
		{first, "1, 9; 2, 8; 3, 7", "0", -1},
		{first, "1, 9; 2, 8; 3, 7", "4", -1},
		{first, "1, 9; 2, 8; 3, 7", "8", -1},
		{first, "1, 9; 2, 8; 3, 7", "'2'", -1},
		{first, "1, 9; 2, 8; 3, 7", "TRUE", -1},
		{first, "1, NULL; 2, NULL", "NULL", -1},
		{first, "-2, 2; 2, 2", "2", 1},
		{second, "1, 9; 2, 8; 3, 7", "8", 1},
		{second, "1, 9; 2, 8; 3, 7", "1", -1},
		// The rows need not rise, nor fit.
		{first, "3, 1; 2, 1; 1, 1; 2, 2; 1, 3", "2", 1},
		{first, "3, 1; 2, 1; 1, 1; 2, 2; 1, 3", "1", 2},
		{first, "3; NULL; NULL, 1; 1; 1, 1; 'a'; FALSE, 2, 3", "1", 3},
		{first, "3; NULL; NULL, 1; 1; 1, 1; 'a'; FALSE, 2, 3", "NULL", 1},
		{first, "3; NULL; NULL, 1; 1; 1, 1; 'a'; FALSE, 2, 3", "'a'", 5},
		{first, "3; NULL; NULL, 1; 1; 1, 1; 'a'; FALSE, 2, 3", "FALSE", 6},
		// A row that is too short has no value there, and so not NULL.
		{second, "1; 2; 2, 1", "1", 2},
		{second, "NULL; 1; 1, 2", "NULL", -1},
		{second, "NULL; 1; 1, 2; 2, NULL", "NULL", 3},
	} {
		x := made(t, c.table, c.rows)
		if got := rel.Find(x, rows(t, c.key)[0][0]); got != c.want {
			t.Errorf("%s in %s of %s: %d, not %d", c.key, c.rows, c.table, got, c.want)
		}
	}
}

// P7.2: at MaxRows each key is found.
func TestFindEach(t *testing.T) {
	x := full(t)
	x.Rows = counted(api.MaxRows)
	for i := range api.MaxRows {
		if got := rel.Find(x, num(int64(i+1))); got != i {
			t.Errorf("%d is at %d", i+1, got)
		}
	}
}

// P7.2: tables and values that may not be.
func TestFindStrange(t *testing.T) {
	for i, x := range append(noTables(t), api.Table{}) {
		for _, v := range []api.Value{{}, num(1), num(2)} {
			if got := rel.Find(api.Rel{T: x, Rows: rows(t, "1, 'a'; 2, 'b'; NULL, NULL")}, v); got != -1 {
				t.Errorf("%v in table %d that may not be: %d", v, i, got)
			}
		}
	}
	for _, place := range far() {
		x := full(t)
		x.T.Key = place
		if rel.Find(x, num(1)) != -1 || rel.Find(x, api.Value{}) != -1 {
			t.Errorf("with the key in %d", place)
		}
	}
	for _, v := range strange() {
		if got := rel.Find(full(t), v); got != -1 {
			t.Errorf("%v is at %d", v, got)
		}
	}
}

// P7.2: some row has it in that column's place, or none has.
func TestHas(t *testing.T) {
	l := []api.Value{{}, num(0), num(1), num(2), text(""), text("1"), text("a"), truth(0), truth(1)}
	for _, r := range []string{"", "1", "1, 'a', TRUE", "1, 'a', TRUE; 2, NULL, FALSE", "1, NULL, NULL; 2, NULL, NULL", "1, 2, 'a'; NULL; 'a', 1; FALSE, '1', 0, 2", "2; 2; 2, '', TRUE", "NULL"} {
		x := made(t, "k INT, s TEXT, b BOOL, KEY (k)", r)
		for col := range 3 {
			var there []api.Value
			for _, row := range x.Rows {
				there = append(there, row[min(col, len(row)):min(col+1, len(row))]...)
			}
			for _, v := range l {
				if got := rel.Has(x, col, v); got != slices.Contains(there, v) {
					t.Errorf("%s in column %d of %s: %v", value.Text(v), col, r, got)
				}
			}
		}
		for _, col := range append(far(), 3, 4) {
			for _, v := range l {
				if rel.Has(x, col, v) {
					t.Errorf("%s in column %d of %s: there is no such column", value.Text(v), col, r)
				}
			}
		}
	}
}

// P7.2: the chapter asks nothing of the table but the column.
func TestHasStrange(t *testing.T) {
	for i, x := range noTables(t) {
		l := api.Rel{T: x, Rows: rows(t, "1, 'a'; 2, NULL")}
		if !rel.Has(l, 0, num(2)) || !rel.Has(l, 1, text("a")) || !rel.Has(l, 1, api.Value{}) || rel.Has(l, 0, text("a")) || rel.Has(l, 2, api.Value{}) || rel.Has(l, -1, num(1)) {
			t.Errorf("table %d", i)
		}
	}
	for _, v := range strange() {
		if rel.Has(full(t), 0, v) || rel.Has(full(t), 1, v) {
			t.Errorf("no row has %v", v)
		}
	}
	if rel.Has(api.Rel{}, 0, api.Value{}) || rel.Has(api.Rel{Rows: counted(2)}, 0, num(1)) {
		t.Error("a table without columns")
	}
}

// P7.2: the rows over which a condition is TRUE, in order.
func TestWhere(t *testing.T) {
	const three = "1, 'a', TRUE; 2, NULL, FALSE; 3, 'c', NULL"
	for _, c := range []struct{ rows, cond, want string }{
		{three, "k < 3", "1, 'a', TRUE; 2, NULL, FALSE"},
		{three, "k = 2", "2, NULL, FALSE"},
		{three, "k = 4", ""},
		{three, "s = 'a'", "1, 'a', TRUE"},
		{three, "NOT s = 'a'", "3, 'c', NULL"},
		{three, "s IS NULL", "2, NULL, FALSE"},
		{three, "b", "1, 'a', TRUE"},
		{three, "NOT b", "2, NULL, FALSE"},
		{three, "b IS NULL", "3, 'c', NULL"},
		{three, "b OR k = 3", "1, 'a', TRUE; 3, 'c', NULL"},
		{three, "b AND s IS NULL", ""},
		{three, "TRUE", three},
		{three, "FALSE", ""},
		{three, "NULL", ""},
		{three, "NOT NULL", ""},
		{three, "k = NULL", ""},
		{three, "NULL = NULL", ""},
		{three, "k + 9223372036854775805 < 9223372036854775807", "1, 'a', TRUE"},
		{"", "TRUE", ""},
		// The rows need not rise, nor be there once, nor fit.
		{"3, 'x', NULL; 1, 'x', NULL; 3, 'x', NULL; 2, 'y', NULL", "s = 'x'", "3, 'x', NULL; 1, 'x', NULL; 3, 'x', NULL"},
		{"1; 2, 'a'; 'a', 'a', TRUE; NULL, 3, 1; 4, 'b', FALSE, TRUE", "k IS NULL", "NULL, 3, 1"},
		{"1; 2, 'a'; 'a', 'a', TRUE; NULL, 3, 1; 4, 'b', FALSE, TRUE", "b", "'a', 'a', TRUE"},
		{"1; 2, 'a'; 'a', 'a', TRUE; NULL, 3, 1; 4, 'b', FALSE, TRUE", "s IS NULL", "1"},
		{"1; 2, 'a'; 'a', 'a', TRUE; NULL, 3, 1; 4, 'b', FALSE, TRUE", "b IS NULL OR k < 0", "1; 2, 'a'"},
		{"1; 2, 'a'; 'a', 'a', TRUE; NULL, 3, 1; 4, 'b', FALSE, TRUE", "k < 3", "1; 2, 'a'"},
	} {
		x := made(t, "k INT, s TEXT, b BOOL, KEY (k)", c.rows)
		if got, e := rel.Where(x, cond(t, c.cond)); e != api.OK || told(got) != c.want {
			t.Errorf("%s of %s: %s, %d", c.cond, c.rows, told(got), e)
		}
	}
}

// P7.2: of no Op all rows, whatever else it has.
func TestWhereAll(t *testing.T) {
	for i, x := range rels(t) {
		for _, e := range []api.Expr{{}, {L: []api.Expr{}}, {S: "z"}, {V: num(1)}, {V: truth(0)}, {L: []api.Expr{cond(t, "FALSE")}}} {
			if got, err := rel.Where(x, e); err != api.OK || !rel.Same(api.Rel{T: x.T, Rows: got}, x) {
				t.Errorf("all rows of %d: %v, %d", i, got, err)
			}
		}
	}
}

// P7.2: each error, of tables with rows and without; beside it there are no rows.
func TestWhereErrors(t *testing.T) {
	deep, wide := cond(t, "b"), cond(t, "b")
	for range api.MaxDepth - 1 {
		deep = api.Expr{Op: "not", L: []api.Expr{deep}}
	}
	for range 5 {
		wide = api.Expr{Op: "and", L: []api.Expr{wide, wide}}
	}
	for i, c := range []struct {
		e    api.Expr
		want api.Errno
	}{
		{deep, api.OK},
		{wide, api.ErrArg},
		{api.Expr{Op: "not", L: []api.Expr{deep}}, api.ErrArg},
		{api.Expr{Op: "x"}, api.ErrArg},
		{api.Expr{Op: "not"}, api.ErrArg},
		{api.Expr{Op: "AND", L: []api.Expr{cond(t, "b"), cond(t, "b")}}, api.ErrArg},
		{api.Expr{Op: "lit", V: api.Value{Kind: 4}}, api.ErrArg},
		{api.Expr{Op: "col", S: "NULL"}, api.ErrArg},
		{api.Expr{Op: "or", L: []api.Expr{cond(t, "z"), {}}}, api.ErrArg},
		{cond(t, "z"), api.ErrName},
		{cond(t, "K < 3"), api.ErrName},
		{cond(t, "z = 1"), api.ErrName},
		{cond(t, "NOT t"), api.ErrName},
		{cond(t, "z OR NOT k"), api.ErrName},
		{cond(t, "NOT k OR z"), api.ErrType},
		{cond(t, "k = 'a'"), api.ErrType},
		{cond(t, "k AND b"), api.ErrType},
		{cond(t, "k"), api.ErrType},
		{cond(t, "s"), api.ErrType},
		{cond(t, "1"), api.ErrType},
		{cond(t, "'TRUE'"), api.ErrType},
		{cond(t, "k + 1"), api.ErrType},
		{cond(t, "NULL - NULL"), api.ErrType},
	} {
		for _, r := range []string{"", "1, 'a', TRUE; 2, NULL, FALSE"} {
			got, e := rel.Where(made(t, "k INT, s TEXT, b BOOL, KEY (k)", r), c.e)
			if e != c.want || e != api.OK && len(got) != 0 {
				t.Errorf("condition %d of %q: %v, %d, not %d", i, r, got, e, c.want)
			}
		}
	}
}

// P7.2: the chapter asks nothing of the table but the columns.
func TestWhereStrange(t *testing.T) {
	for i, x := range noTables(t) {
		got, e := rel.Where(api.Rel{T: x, Rows: rows(t, "1, 'a'; 2, 'b'; NULL, 'c'")}, cond(t, "k = 2"))
		if e != api.OK || told(got) != "2, 'b'" {
			t.Errorf("table %d: %s, %d", i, told(got), e)
		}
	}
	if got, e := rel.Where(api.Rel{Rows: counted(2)}, cond(t, "k = 2")); e != api.ErrName || len(got) != 0 {
		t.Errorf("a table without columns: %v, %d", got, e)
	}
	if got, e := rel.Where(api.Rel{Rows: counted(2)}, cond(t, "TRUE")); e != api.OK || told(got) != "1, NULL; 2, NULL" {
		t.Errorf("a table without columns: %v, %d", got, e)
	}
	// Of a column of no type a condition may be; of one of a type that there is not none may.
	x := api.Rel{T: api.Table{Cols: []api.Column{{Name: "n"}, {Name: "x", Type: 7}, {Name: "n", Type: api.Int}}}, Rows: [][]api.Value{{truth(1)}, {num(1)}, {truth(0)}, {truth(2)}, {{Kind: api.Bool, I: 1, S: "a"}}, {}}}
	if got, e := rel.Where(x, cond(t, "n")); e != api.OK || told(got) != "TRUE" {
		t.Errorf("a column of no type: %v, %d", got, e)
	}
	if got, e := rel.Where(x, cond(t, "x")); e != api.ErrType || len(got) != 0 {
		t.Errorf("a column of a type that there is not: %v, %d", got, e)
	}
}

// R3: the rows are in memory of their own.
func TestWhereOwn(t *testing.T) {
	for _, e := range []api.Expr{{}, cond(t, "TRUE")} {
		x := full(t)
		got, _ := rel.Where(x, e)
		got[0][0], got[1] = num(9), nil
		if !rel.Same(x, full(t)) {
			t.Errorf("the rows of %s are those that were handed in", e.Op)
		}
		got, _ = rel.Where(x, e)
		spoilt(x)
		if told(got) != told(full(t).Rows) {
			t.Errorf("the rows of %s were changed from outside", e.Op)
		}
		row := []api.Value{num(1), {}}
		got, _ = rel.Where(api.Rel{T: full(t).T, Rows: [][]api.Value{row, row}}, e)
		got[0][1] = text("z")
		if got[1][1] != (api.Value{}) {
			t.Errorf("two rows of %s are one", e.Op)
		}
	}
}

// P7.2, P7.4: of each condition, all its rows; its NOT has no row of these; and IS NULL has the rest.
func TestWhereNot(t *testing.T) {
	x := made(t, "k INT, s TEXT, b BOOL, n INT, KEY (k)", "1, 'a', TRUE, NULL; 2, NULL, FALSE, 2; 3, 'c', NULL, 3; 4, '', TRUE, 1; 5, 'a', NULL, -9223372036854775808; 6, NULL, NULL, 9223372036854775807")
	parts := strings.Split("b; NULL; TRUE; FALSE; k < 3; n = k; n < k + 1; n + 1 < 0; n - 1 < 0; s = 'a'; s < 'b'; s IS NULL; n IS NULL; b = TRUE; b < b", "; ")
	conds := slices.Clone(parts)
	for _, a := range parts {
		for _, b := range parts {
			conds = append(conds, a+" AND "+b, a+" OR NOT ("+b+")")
		}
	}
	for _, s := range conds {
		met := 0
		for i, c := range []string{s, "NOT (" + s + ")", "(" + s + ") IS NULL"} {
			e := cond(t, c)
			got, err := rel.Where(x, e)
			want := slices.DeleteFunc(slices.Clone(x.Rows), func(row []api.Value) bool { return expr.Eval(e, x.T.Cols, row) != truth(1) })
			if err != api.OK || told(got) != told(want) {
				t.Errorf("%s: %s, %d", c, told(got), err)
			}
			for _, row := range got {
				if met>>row[0].I&1 == 1 {
					t.Errorf("%s, %d: a row is there twice", s, i)
				}
				met |= 1 << row[0].I
			}
		}
		if met != 126 {
			t.Errorf("%s: not each row is there: %b", s, met)
		}
	}
}
