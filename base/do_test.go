package base_test

import (
	"slices"
	"strings"
	"testing"

	"caddis/api"
	"caddis/base"
	"caddis/rel"
	"caddis/schema"
)

// done is a statement's base, and its answer; it tells what holds of all of them: with an error, and behind a SELECT, the base is as it was, what was a base stays one, and only a SELECT has rows.
func done(t *testing.T, db []api.Rel, s api.Stmt) ([]api.Rel, api.Answer) {
	t.Helper()
	got, a := base.Do(db, s)
	if (a.E != api.OK || s.Op == "select") && !same(got, db) {
		t.Errorf("%s of %s, error %d: the base is %s", s.Op, s.Table, a.E, shown(got))
	}
	if base.Check(db) == api.OK && base.Check(got) != api.OK {
		t.Errorf("%s of %s: the base may not be any more: %s", s.Op, s.Table, shown(got))
	}
	if a.E != api.OK && a.N != 0 || (a.E != api.OK || s.Op != "select") && len(a.Rows) != 0 {
		t.Errorf("%s of %s, error %d: %d, %s", s.Op, s.Table, a.E, a.N, told(a.Rows))
	}
	return got, a
}

// step is a statement, and what it is to be answered: its error, and how many rows it is about.
type step struct {
	s string
	e api.Errno
	n int
}

// walk does statements one behind the other, from a base on.
func walk(t *testing.T, db []api.Rel, l []step) []api.Rel {
	t.Helper()
	for _, c := range l {
		var a api.Answer
		db, a = done(t, db, parsed(t, c.s))
		if a.E != c.e || a.N != c.n {
			t.Errorf("%s: %d, %d, not %d, %d", c.s, a.E, a.N, c.e, c.n)
		}
	}
	return db
}

// P8.2: of a base that may not be the base, and ErrArg, whatever is asked.
func TestDoStrangeBase(t *testing.T) {
	for i, db := range bases(t) {
		may := base.Check(db) == api.OK
		for _, s := range []string{"CREATE TABLE x (k INT, KEY (k))", "CREATE TABLE t (k INT, k INT, KEY (k))", "DROP TABLE t", "DROP TABLE x", "INSERT INTO t VALUES (9, NULL)", "UPDATE t SET k = 1", "UPDATE x SET k = 1", "DELETE FROM v", "SELECT * FROM t", "SELECT * FROM x", "GRANT READ ON t TO r"} {
			if _, a := done(t, db, parsed(t, s)); a.E != api.ErrArg && !may {
				t.Errorf("%s of base %d: %d", s, i, a.E)
			}
		}
		if _, a := done(t, db, api.Stmt{}); a.E != api.ErrArg {
			t.Errorf("no statement of base %d: %d", i, a.E)
		}
	}
}

// P8.2: statements that may not be, and of other Ops.
func TestDoStrangeStatement(t *testing.T) {
	const long = "abcdefghijklmnopq"
	var l []api.Stmt
	for _, s := range []string{"GRANT READ ON t TO r", "GRANT WRITE ON t TO r", "REVOKE READ ON t FROM r", "REVOKE WRITE ON t FROM r", "MIGRATE COPY x FROM u (k)", "MIGRATE JOIN x FROM v, t ON r", "MIGRATE GROUP x FROM v BY r SUM d", "GRANT READ ON x TO r"} {
		l = append(l, parsed(t, s))
	}
	for _, s := range []string{"CREATE TABLE x (k INT, KEY (k))", "DROP TABLE u", "INSERT INTO t VALUES (9, NULL)", "UPDATE t SET k = 1", "DELETE FROM v", "SELECT * FROM t", "SELECT * FROM x"} {
		for _, change := range []func(x *api.Stmt){
			func(x *api.Stmt) { x.Op = "" },
			func(x *api.Stmt) { x.Op = strings.ToUpper(x.Op) },
			func(x *api.Stmt) { x.Op += " " },
			func(x *api.Stmt) { x.Op = "read" },
			func(x *api.Stmt) { x.Table = "" },
			func(x *api.Stmt) { x.Table = "KEY" },
			func(x *api.Stmt) { x.Table = long },
			func(x *api.Stmt) { x.Other = "t" },
			func(x *api.Stmt) { x.Role = "r" },
			func(x *api.Stmt) { x.Names = []string{"k"} },
			func(x *api.Stmt) { x.Cols = append(x.Cols, api.Column{Name: "KEY", Type: api.Int}) },
			func(x *api.Stmt) { x.Row = slices.Repeat([]api.Value{num(1)}, api.MaxRow+1) },
			func(x *api.Stmt) { x.Row = []api.Value{{Kind: 4}} },
			func(x *api.Stmt) { x.Where = api.Expr{Op: "x"} },
			func(x *api.Stmt) { x.Where = api.Expr{S: "k"} },
			func(x *api.Stmt) { x.Sets = slices.Repeat(parsed(t, "UPDATE t SET k = 1").Sets, api.MaxCols+1) },
			func(x *api.Stmt) { x.Sets = []api.Set{{Name: "k"}} },
			func(x *api.Stmt) { x.Check = api.Expr{Op: "not"} },
		} {
			x := parsed(t, s)
			change(&x)
			l = append(l, x)
		}
	}
	for _, x := range l {
		if _, a := done(t, three(t), x); a.E != api.ErrArg {
			t.Errorf("%v: %d", x, a.E)
		}
		if _, a := done(t, nil, x); a.E != api.ErrArg {
			t.Errorf("%v of nothing: %d", x, a.E)
		}
	}
}

// P8.2: create, with each error.
func TestCreate(t *testing.T) {
	for _, c := range []step{
		{"CREATE TABLE a (k INT, KEY (k))", api.OK, 1},
		{"CREATE TABLE tt (k INT, s TEXT NOT NULL, KEY (s), UNIQUE (k), CHECK (k < 5))", api.OK, 1},
		{"CREATE TABLE x (k INT, KEY (k), REFERENCES (k) t)", api.OK, 1},
		{"CREATE TABLE x (k INT, KEY (k), REFERENCES (k) t, REFERENCES (k) w, REFERENCES (k) u)", api.OK, 1},
		{"CREATE TABLE x (k INT, KEY (k), REFERENCES (k) x)", api.OK, 1},
		{"CREATE TABLE x (k TEXT, KEY (k), REFERENCES (k) t)", api.OK, 1},
		{"CREATE TABLE x (k INT, k INT, KEY (k))", api.ErrThere, 0},
		{"CREATE TABLE x (k INT, KEY (s))", api.ErrName, 0},
		{"CREATE TABLE x (k INT, KEY (k), UNIQUE (s))", api.ErrName, 0},
		{"CREATE TABLE x (k INT, KEY (k), REFERENCES (r) t)", api.ErrName, 0},
		{"CREATE TABLE x (k INT, KEY (k), CHECK (s))", api.ErrName, 0},
		{"CREATE TABLE x (k INT, KEY (k), CHECK (k))", api.ErrType, 0},
		{"CREATE TABLE x (k INT, KEY (k), CHECK (k + 1 < TRUE))", api.ErrType, 0},
		{"CREATE TABLE t (k INT, KEY (k))", api.ErrThere, 0},
		{"CREATE TABLE w (k INT, KEY (k), REFERENCES (k) x)", api.ErrThere, 0},
		{"CREATE TABLE x (k INT, KEY (k), REFERENCES (k) y)", api.ErrRef, 0},
		{"CREATE TABLE x (k INT, KEY (k), REFERENCES (k) t, REFERENCES (k) y)", api.ErrRef, 0},
		{"CREATE TABLE x (k INT, KEY (k), REFERENCES (k) T)", api.ErrRef, 0},
	} {
		db := walk(t, three(t), []step{c})
		if c.e != api.OK {
			continue
		}
		x, _ := schema.Of(parsed(t, c.s))
		if got := base.Find(db, x.Name); len(db) != 5 || got < 0 || !rel.Same(db[got], api.Rel{T: x}) || !same(base.Without(db, x.Name), three(t)) {
			t.Errorf("%s: %s", c.s, shown(db))
		}
	}
}

// P8.2: create, up to MaxTables, and one more.
func TestCreateFull(t *testing.T) {
	for n := range api.MaxTables + 1 {
		want := step{"CREATE TABLE x (k INT, KEY (k))", api.OK, 1}
		if n == api.MaxTables {
			want = step{want.s, api.ErrFull, 0}
		}
		walk(t, letters(n), []step{want})
	}
	walk(t, letters(api.MaxTables), []step{
		{"CREATE TABLE aa (k INT, KEY (k))", api.ErrThere, 0},
		{"CREATE TABLE x (k INT, KEY (s))", api.ErrName, 0},
		{"CREATE TABLE x (k INT, KEY (k), REFERENCES (k) y)", api.ErrFull, 0},
		{"DROP TABLE ac", api.OK, 1},
		{"CREATE TABLE x (k INT, KEY (k), REFERENCES (k) y)", api.ErrRef, 0},
		{"CREATE TABLE x (k INT, KEY (k), REFERENCES (k) x)", api.OK, 1},
		{"CREATE TABLE ac (k INT, KEY (k))", api.ErrFull, 0},
	})
}

// P8.2: drop, with each error.
func TestDrop(t *testing.T) {
	for _, c := range []step{
		{"DROP TABLE u", api.OK, 1},
		{"DROP TABLE v", api.OK, 1},
		{"DROP TABLE w", api.OK, 1},
		{"DROP TABLE t", api.ErrRef, 0},
		{"DROP TABLE x", api.ErrNone, 0},
		{"DROP TABLE T", api.ErrNone, 0},
	} {
		db := walk(t, three(t), []step{c})
		if want := base.Without(three(t), parsed(t, c.s).Table); c.e == api.OK && (len(db) != 3 || !same(db, want)) {
			t.Errorf("%s: %s", c.s, shown(db))
		}
	}
	walk(t, nil, []step{{"DROP TABLE t", api.ErrNone, 0}})
	// A reference counts, even where there is no row; it goes with its table.
	walk(t, made(t, "t (k INT, KEY (k))", "", "v (k INT, KEY (k), REFERENCES (k) t)", ""), []step{
		{"DROP TABLE t", api.ErrRef, 0}, {"DROP TABLE v", api.OK, 1}, {"DROP TABLE v", api.ErrNone, 0}, {"DROP TABLE t", api.OK, 1}, {"DROP TABLE t", api.ErrNone, 0}})
}

// P8.2: insert, with each error.
func TestInsert(t *testing.T) {
	for _, c := range []struct {
		s    string
		e    api.Errno
		rows string
	}{
		{"t VALUES (4, 'b')", api.OK, "1, 'a'; 2, NULL; 3, 'c'; 4, 'b'"},
		{"t VALUES (0, 'b')", api.OK, "0, 'b'; 1, 'a'; 2, NULL; 3, 'c'"},
		{"t VALUES (-9223372036854775808, NULL)", api.OK, "-9223372036854775808, NULL; 1, 'a'; 2, NULL; 3, 'c'"},
		{"u VALUES (NULL, 5)", api.OK, "NULL, 5"},
		{"v VALUES (5, NULL, NULL)", api.OK, "1, 1, 5; 2, 1, NULL; 3, NULL, 7; 4, 3, 7; 5, NULL, NULL"},
		{"v VALUES (0, 2, 0)", api.OK, "0, 2, 0; 1, 1, 5; 2, 1, NULL; 3, NULL, 7; 4, 3, 7"},
		{"w VALUES (5, 5)", api.OK, "1, NULL; 2, 1; 3, 2; 4, 4; 5, 5"},
		{"w VALUES (0, 4)", api.OK, "0, 4; 1, NULL; 2, 1; 3, 2; 4, 4"},
		{"x VALUES (1)", api.ErrNone, ""},
		{"t VALUES (4)", api.ErrArg, ""},
		{"t VALUES (4, 'b', NULL)", api.ErrArg, ""},
		{"t VALUES (NULL)", api.ErrArg, ""},
		{"t VALUES (1, 2, 3, 4, 5, 6, 7, 8, 9, 10, 11, 12)", api.ErrArg, ""},
		{"t VALUES (NULL, 'b')", api.ErrNull, ""},
		{"t VALUES (NULL, 5)", api.ErrNull, ""},
		{"t VALUES ('4', 'b')", api.ErrType, ""},
		{"t VALUES (TRUE, 'b')", api.ErrType, ""},
		{"t VALUES (4, 4)", api.ErrType, ""},
		{"t VALUES (1, 4)", api.ErrType, ""},
		{"t VALUES (100, 'b')", api.ErrCheck, ""},
		{"t VALUES (100, 'a')", api.ErrCheck, ""},
		{"t VALUES (1, 'b')", api.ErrThere, ""},
		{"t VALUES (1, 'a')", api.ErrThere, ""},
		{"t VALUES (3, NULL)", api.ErrThere, ""},
		{"t VALUES (4, 'a')", api.ErrThere, ""},
		{"t VALUES (0, 'c')", api.ErrThere, ""},
		{"v VALUES (4, 9, 9)", api.ErrThere, ""},
		{"v VALUES (5, 9, 9)", api.ErrRef, ""},
		{"v VALUES (0, 0, 0)", api.ErrRef, ""},
		{"v VALUES (5, 'a', 9)", api.ErrType, ""},
		{"w VALUES (5, 6)", api.ErrRef, ""},
	} {
		n := 1
		if c.e != api.OK {
			n = 0
		}
		db := walk(t, three(t), []step{{"INSERT INTO " + c.s, c.e, n}})
		if at := base.Find(db, c.s[:1]); c.e == api.OK && (told(db[at].Rows) != c.rows || !same(base.Without(db, c.s[:1]), base.Without(three(t), c.s[:1]))) {
			t.Errorf("INSERT INTO %s: %s", c.s, shown(db))
		}
	}
	walk(t, nil, []step{{"INSERT INTO t VALUES (1)", api.ErrNone, 0}})
}

// P8.2: insert, up to MaxRows, and one more; ErrFull is ahead of all that may be wrong with the row.
func TestInsertFull(t *testing.T) {
	db := three(t)
	db[1].Rows = nil
	for i := range api.MaxRows - 1 {
		db[1].Rows = append(db[1].Rows, []api.Value{{}, num(int64(i))})
	}
	db = walk(t, db, []step{
		{"INSERT INTO u VALUES (NULL, 5)", api.ErrThere, 0},
		{"INSERT INTO u VALUES ('a', -1)", api.OK, 1},
		{"INSERT INTO u VALUES ('a', -2)", api.ErrFull, 0},
		{"INSERT INTO u VALUES ('a', 5)", api.ErrFull, 0},
		{"INSERT INTO u VALUES (5, 5)", api.ErrFull, 0},
		{"INSERT INTO u VALUES (NULL, NULL)", api.ErrFull, 0},
		{"INSERT INTO u VALUES (5)", api.ErrFull, 0},
		{"UPDATE u SET s = 'a'", api.OK, api.MaxRows},
		{"SELECT * FROM u", api.OK, api.MaxRows},
		{"DELETE FROM u WHERE k = -1", api.OK, 1},
		{"INSERT INTO u VALUES ('a', 200)", api.OK, 1},
		{"INSERT INTO u VALUES ('a', 201)", api.ErrFull, 0},
		{"DELETE FROM u", api.OK, api.MaxRows},
		{"SELECT * FROM u", api.OK, 0},
	})
	if !same(db[:1], three(t)[:1]) || !same(db[2:], three(t)[2:]) {
		t.Errorf("the other tables: %s", shown(db))
	}
}

// P8.2: the columns' new values, each of the row as it was, in each row for which Where is TRUE.
func TestUpdate(t *testing.T) {
	const tab = "t (k INT, a INT, s TEXT, b BOOL, KEY (k), UNIQUE (a), CHECK (k < 50))"
	const was = "1, 10, 'x', TRUE; 2, 20, NULL, FALSE; 3, NULL, 'y', NULL"
	for _, c := range []struct {
		s    string
		e    api.Errno
		n    int
		rows string
	}{
		{"s = 'z'", api.OK, 3, "1, 10, 'z', TRUE; 2, 20, 'z', FALSE; 3, NULL, 'z', NULL"},
		{"s = NULL WHERE k = 1", api.OK, 1, "1, 10, NULL, TRUE; 2, 20, NULL, FALSE; 3, NULL, 'y', NULL"},
		{"a = a + k", api.OK, 3, "1, 11, 'x', TRUE; 2, 22, NULL, FALSE; 3, NULL, 'y', NULL"},
		{"k = k + 1", api.OK, 3, "2, 10, 'x', TRUE; 3, 20, NULL, FALSE; 4, NULL, 'y', NULL"},
		{"k = 0 - k", api.OK, 3, "-3, NULL, 'y', NULL; -2, 20, NULL, FALSE; -1, 10, 'x', TRUE"},
		{"k = a, a = k WHERE k < 3", api.OK, 2, "3, NULL, 'y', NULL; 10, 1, 'x', TRUE; 20, 2, NULL, FALSE"},
		{"a = k, k = a WHERE k < 3", api.OK, 2, "3, NULL, 'y', NULL; 10, 1, 'x', TRUE; 20, 2, NULL, FALSE"},
		{"a = k, s = 'z', k = k + 1, b = a IS NULL", api.OK, 3, "2, 1, 'z', FALSE; 3, 2, 'z', FALSE; 4, 3, 'z', TRUE"},
		{"a = 30 - a", api.OK, 3, "1, 20, 'x', TRUE; 2, 10, NULL, FALSE; 3, NULL, 'y', NULL"},
		{"b = k < 2", api.OK, 3, "1, 10, 'x', TRUE; 2, 20, NULL, FALSE; 3, NULL, 'y', FALSE"},
		{"b = NOT b OR NULL", api.OK, 3, "1, 10, 'x', NULL; 2, 20, NULL, TRUE; 3, NULL, 'y', NULL"},
		{"b = NULL, a = NULL + 1", api.OK, 3, "1, NULL, 'x', NULL; 2, NULL, NULL, NULL; 3, NULL, 'y', NULL"},
		{"a = a + 9223372036854775797", api.OK, 3, "1, 9223372036854775807, 'x', TRUE; 2, NULL, NULL, FALSE; 3, NULL, 'y', NULL"},
		{"k = 9 WHERE a IS NULL", api.OK, 1, "1, 10, 'x', TRUE; 2, 20, NULL, FALSE; 9, NULL, 'y', NULL"},
		{"k = 0 WHERE b", api.OK, 1, "0, 10, 'x', TRUE; 2, 20, NULL, FALSE; 3, NULL, 'y', NULL"},
		{"k = 0 WHERE NOT b", api.OK, 1, "0, 20, NULL, FALSE; 1, 10, 'x', TRUE; 3, NULL, 'y', NULL"},
		{"k = 49 WHERE k = 1", api.OK, 1, "2, 20, NULL, FALSE; 3, NULL, 'y', NULL; 49, 10, 'x', TRUE"},
		{"k = k", api.OK, 3, was},
		{"a = 1 WHERE FALSE", api.OK, 0, was},
		{"a = 1 WHERE NULL", api.OK, 0, was},
		{"a = 1 WHERE a = NULL", api.OK, 0, was},
		{"k = NULL WHERE k = 9", api.OK, 0, was},
		{"k = k - k WHERE k = 2", api.OK, 1, "0, 20, NULL, FALSE; 1, 10, 'x', TRUE; 3, NULL, 'y', NULL"},
		{"k = 1", api.ErrThere, 0, was},
		{"k = 3 WHERE k = 1", api.ErrThere, 0, was},
		{"k = k + 1 WHERE k < 3", api.ErrThere, 0, was},
		{"a = 20 WHERE k = 1", api.ErrThere, 0, was},
		{"a = 5", api.ErrThere, 0, was},
		{"k = NULL", api.ErrNull, 0, was},
		{"k = a", api.ErrNull, 0, was},
		{"k = k + 9223372036854775807", api.ErrNull, 0, was},
		{"k = NULL WHERE k = 2", api.ErrNull, 0, was},
		{"k = 50 WHERE k = 2", api.ErrCheck, 0, was},
		{"k = k + 48", api.ErrCheck, 0, was},
		{"k = 50", api.ErrCheck, 0, was},
	} {
		db := walk(t, made(t, tab, was), []step{{"UPDATE t SET " + c.s, c.e, c.n}})
		if got := told(db[0].Rows); got != c.rows {
			t.Errorf("SET %s: %s", c.s, got)
		}
	}
}

// P8.2: what may be wrong with an update, set by set, ahead of its condition, and of what it would make.
func TestUpdateErrors(t *testing.T) {
	for s, want := range map[string]api.Errno{
		"x SET k = 1":                           api.ErrNone,
		"x SET z = 1 WHERE k":                   api.ErrNone,
		"t SET z = 1":                           api.ErrName,
		"t SET K = 1":                           api.ErrName,
		"t SET t = 1":                           api.ErrName,
		"t SET a = 1, z = 1":                    api.ErrName,
		"t SET z = 1, z = 1":                    api.ErrName,
		"t SET z = 'x' + 1":                     api.ErrName,
		"t SET a = 1, a = 1":                    api.ErrThere,
		"t SET a = 1, s = 'x', a = 2":           api.ErrThere,
		"t SET a = 1, a = z":                    api.ErrThere,
		"t SET a = 1, a = 'x'":                  api.ErrThere,
		"t SET a = 1, a = 1, z = 1":             api.ErrThere,
		"t SET a = 1, z = 1, a = 1":             api.ErrName,
		"t SET a = z":                           api.ErrName,
		"t SET a = z + 'x'":                     api.ErrName,
		"t SET a = 'x' + z":                     api.ErrName,
		"t SET a = NOT s OR z":                  api.ErrType,
		"t SET a = z, a = 1":                    api.ErrName,
		"t SET a = 'x'":                         api.ErrType,
		"t SET a = TRUE":                        api.ErrType,
		"t SET a = a < 1":                       api.ErrType,
		"t SET a = NULL IS NULL":                api.ErrType,
		"t SET a = s":                           api.ErrType,
		"t SET s = a":                           api.ErrType,
		"t SET s = 1":                           api.ErrType,
		"t SET s = s + 1":                       api.ErrType,
		"t SET b = 1":                           api.ErrType,
		"t SET b = 'TRUE'":                      api.ErrType,
		"t SET b = a":                           api.ErrType,
		"t SET b = NULL + NULL":                 api.ErrType,
		"t SET a = 1, s = 1, z = 1":             api.ErrType,
		"t SET a = 'x', a = 1":                  api.ErrType,
		"t SET a = 'x', z = 1":                  api.ErrType,
		"t SET a = 'x' WHERE z":                 api.ErrType,
		"t SET z = 1 WHERE a":                   api.ErrName,
		"t SET a = 1, a = 1 WHERE a":            api.ErrThere,
		"t SET a = 1 WHERE a":                   api.ErrType,
		"t SET a = 1 WHERE z":                   api.ErrName,
		"t SET a = 1 WHERE z + 1 = 'x'":         api.ErrName,
		"t SET a = 1 WHERE NOT a OR z":          api.ErrType,
		"t SET k = NULL WHERE a":                api.ErrType,
		"t SET k = 1 WHERE z":                   api.ErrName,
		"t SET k = NULL, a = 5":                 api.ErrNull,
		"t SET k = 60, a = 5":                   api.ErrCheck,
		"t SET k = 9":                           api.ErrThere,
		"t SET k = k + 1":                       api.ErrRef,
		"t SET k = 9 WHERE k = 1":               api.ErrRef,
		"t SET k = 9 WHERE k = 2":               api.OK,
		"t SET k = 3 - k WHERE k < 3":           api.OK,
		"t SET k = 1 WHERE k = 1":               api.OK,
		"v SET r = 3":                           api.OK,
		"v SET r = 4":                           api.ErrRef,
		"v SET r = 4 WHERE n = 2":               api.ErrRef,
		"v SET r = 4 WHERE n = 9":               api.OK,
		"v SET r = NULL":                        api.OK,
		"v SET r = r + 1":                       api.ErrRef,
		"v SET r = 4, n = 1":                    api.ErrThere,
		"v SET r = n WHERE n < 4":               api.OK,
		"v SET r = n":                           api.ErrRef,
		"w SET k = k + 1":                       api.ErrRef,
		"w SET k = k + 1, up = up + 1":          api.OK,
		"w SET k = 9, up = 9 WHERE k = 4":       api.OK,
		"w SET up = k":                          api.OK,
		"w SET k = 9 WHERE k = 3":               api.OK,
		"w SET k = 9 WHERE k = 2":               api.ErrRef,
		"w SET k = up WHERE k = 4":              api.OK,
		"w SET up = 9 WHERE k = 1":              api.ErrRef,
		"w SET up = 9, k = 9 WHERE k = 1":       api.ErrRef,
		"w SET up = k + 1 WHERE k < 4":          api.OK,
		"w SET up = k - 1 WHERE NOT up IS NULL": api.OK,
	} {
		db := made(t,
			"t (k INT, a INT, s TEXT, b BOOL, KEY (k), UNIQUE (a), CHECK (k < 50))", "1, 10, 'x', TRUE; 2, 20, NULL, FALSE; 3, NULL, 'y', NULL",
			"v (n INT, r INT, KEY (n), REFERENCES (r) t)", "1, 1; 2, 1; 3, NULL; 4, 3",
			"w (k INT, up INT, KEY (k), REFERENCES (up) w)", "1, NULL; 2, 1; 3, 2; 4, 4")
		if _, a := done(t, db, parsed(t, "UPDATE "+s)); a.E != want {
			t.Errorf("UPDATE %s: %d, not %d", s, a.E, want)
		}
		// The sets and the condition are wrong, even where there is no row.
		db[0].Rows, db[1].Rows, db[2].Rows = nil, nil, nil
		if early := want == api.ErrNone || want == api.ErrName || want == api.ErrType || strings.Contains(s, "a = 1, a") || strings.Contains(s, ", a = 2"); !early {
			want = api.OK
		}
		if _, a := done(t, db, parsed(t, "UPDATE "+s)); a.E != want {
			t.Errorf("UPDATE %s without rows: %d, not %d", s, a.E, want)
		}
	}
}

// P8.2: MaxCols sets, each of them once.
func TestUpdateSets(t *testing.T) {
	all := made(t, "t (a INT, b INT, c INT, d INT, e INT, f INT, g INT, h INT, KEY (d))", "1, 2, 3, 4, 5, 6, 7, 8")
	db := walk(t, all, []step{{"UPDATE t SET a = b, b = c, c = d, d = e, e = f, f = g, g = h, h = a", api.OK, 1}})
	if got := told(db[0].Rows); got != "2, 3, 4, 5, 6, 7, 8, 1" {
		t.Errorf("all columns, turned: %s", got)
	}
	walk(t, all, []step{{"UPDATE t SET a = b, b = c, c = d, d = e, e = f, f = g, g = h, a = a", api.ErrThere, 0}})
}

// P8.2: of rows that do not fit the first one by the new keys tells what is wrong.
func TestUpdateFirst(t *testing.T) {
	db := made(t, "t (k INT, n INT, d INT NOT NULL, KEY (k), CHECK (n < 10))", "1, 1, 5; 2, 9, 5; 3, 1, 9223372036854775807")
	for s, want := range map[string]api.Errno{
		"n = n + 1, d = d + 1":                        api.ErrCheck,
		"n = n + 1, d = d + 1, k = 0 - k":             api.ErrNull,
		"n = n + 1, d = d + 1 WHERE NOT k = 2":        api.ErrNull,
		"n = n + 1, d = d + 1 WHERE NOT k = 3":        api.ErrCheck,
		"n = n + 1, d = d + 1, k = 7":                 api.ErrCheck,
		"n = n + 1, d = d + 1, k = 7 WHERE 1 < k":     api.ErrCheck,
		"n = n + 1, d = d + 1, k = 5 - k WHERE 1 < k": api.ErrNull,
		"n = n + 1, d = d + 1, k = 1 WHERE k = 3":     api.ErrNull,
		"k = 1 WHERE k = 3":                           api.ErrThere,
	} {
		if _, a := done(t, db, parsed(t, "UPDATE t SET "+s)); a.E != want {
			t.Errorf("SET %s: %d, not %d", s, a.E, want)
		}
	}
}

// P8.2: delete, with each error.
func TestDelete(t *testing.T) {
	for _, c := range []struct {
		s    string
		e    api.Errno
		n    int
		rows string
	}{
		{"t WHERE k = 2", api.OK, 1, "1, 'a'; 3, 'c'"},
		{"t WHERE s IS NULL", api.OK, 1, "1, 'a'; 3, 'c'"},
		{"t WHERE s = NULL", api.OK, 0, "1, 'a'; 2, NULL; 3, 'c'"},
		{"t WHERE NULL", api.OK, 0, "1, 'a'; 2, NULL; 3, 'c'"},
		{"t WHERE FALSE", api.OK, 0, "1, 'a'; 2, NULL; 3, 'c'"},
		{"t WHERE k = 9", api.OK, 0, "1, 'a'; 2, NULL; 3, 'c'"},
		{"v", api.OK, 4, ""},
		{"v WHERE TRUE", api.OK, 4, ""},
		{"v WHERE d = 7", api.OK, 2, "1, 1, 5; 2, 1, NULL"},
		{"v WHERE NOT d = 7", api.OK, 1, "2, 1, NULL; 3, NULL, 7; 4, 3, 7"},
		{"v WHERE r = 1 OR n = 4", api.OK, 3, "3, NULL, 7"},
		{"u", api.OK, 0, ""},
		{"u WHERE s = 'a'", api.OK, 0, ""},
		{"w", api.OK, 4, ""},
		{"w WHERE k = 3", api.OK, 1, "1, NULL; 2, 1; 4, 4"},
		{"w WHERE k = 4", api.OK, 1, "1, NULL; 2, 1; 3, 2"},
		{"w WHERE k < 4", api.OK, 3, "4, 4"},
		{"w WHERE NOT up IS NULL", api.OK, 3, "1, NULL"},
		{"w WHERE k = 1", api.ErrRef, 0, ""},
		{"w WHERE up IS NULL", api.ErrRef, 0, ""},
		{"w WHERE k < 3", api.ErrRef, 0, ""},
		{"t", api.ErrRef, 0, ""},
		{"t WHERE k = 1", api.ErrRef, 0, ""},
		{"t WHERE k = 3", api.ErrRef, 0, ""},
		{"t WHERE k < 3", api.ErrRef, 0, ""},
		{"x", api.ErrNone, 0, ""},
		{"x WHERE z", api.ErrNone, 0, ""},
		{"t WHERE z", api.ErrName, 0, ""},
		{"t WHERE k", api.ErrType, 0, ""},
		{"u WHERE k", api.ErrType, 0, ""},
		{"u WHERE n = 1", api.ErrName, 0, ""},
		{"t WHERE 1", api.ErrType, 0, ""},
		{"t WHERE k = 'a'", api.ErrType, 0, ""},
		{"t WHERE NOT k OR z", api.ErrType, 0, ""},
		{"t WHERE z OR NOT k", api.ErrName, 0, ""},
	} {
		db := walk(t, three(t), []step{{"DELETE FROM " + c.s, c.e, c.n}})
		if at := base.Find(db, c.s[:1]); c.e == api.OK && (told(db[at].Rows) != c.rows || !same(base.Without(db, c.s[:1]), base.Without(three(t), c.s[:1]))) {
			t.Errorf("DELETE FROM %s: %s", c.s, shown(db))
		}
	}
	walk(t, nil, []step{{"DELETE FROM t", api.ErrNone, 0}})
	walk(t, three(t), []step{{"DELETE FROM v WHERE r = 1", api.OK, 2}, {"DELETE FROM t WHERE k = 3", api.ErrRef, 0}, {"DELETE FROM t WHERE k = 1", api.OK, 1}, {"DELETE FROM v", api.OK, 2}, {"DELETE FROM t", api.OK, 2}, {"DELETE FROM t", api.OK, 0}})
}

// P8.2: select, with each error.
func TestSelect(t *testing.T) {
	for _, c := range []struct {
		s    string
		e    api.Errno
		rows string
	}{
		{"t", api.OK, "1, 'a'; 2, NULL; 3, 'c'"},
		{"t WHERE k < 3", api.OK, "1, 'a'; 2, NULL"},
		{"t WHERE s = 'c'", api.OK, "3, 'c'"},
		{"t WHERE NOT s = 'c'", api.OK, "1, 'a'"},
		{"t WHERE s IS NULL", api.OK, "2, NULL"},
		{"t WHERE TRUE", api.OK, "1, 'a'; 2, NULL; 3, 'c'"},
		{"t WHERE NULL", api.OK, ""},
		{"t WHERE k = 9", api.OK, ""},
		{"v WHERE d = 7 AND r = 3", api.OK, "4, 3, 7"},
		{"u", api.OK, ""},
		{"w", api.OK, "1, NULL; 2, 1; 3, 2; 4, 4"},
		{"w WHERE k = up", api.OK, "4, 4"},
		{"x", api.ErrNone, ""},
		{"T", api.ErrNone, ""},
		{"x WHERE k", api.ErrNone, ""},
		{"t WHERE z", api.ErrName, ""},
		{"t WHERE n = 1", api.ErrName, ""},
		{"t WHERE k", api.ErrType, ""},
		{"t WHERE s", api.ErrType, ""},
		{"u WHERE k + 1", api.ErrType, ""},
		{"t WHERE k = s", api.ErrType, ""},
	} {
		_, a := done(t, three(t), parsed(t, "SELECT * FROM "+c.s))
		if a.E != c.e || told(a.Rows) != c.rows || a.N != len(a.Rows) {
			t.Errorf("SELECT * FROM %s: %d, %d, %s", c.s, a.E, a.N, told(a.Rows))
		}
	}
	if _, a := done(t, nil, parsed(t, "SELECT * FROM t")); a.E != api.ErrNone {
		t.Errorf("SELECT of nothing: %d", a.E)
	}
}

// P8.2, R2: of faults that apply together the one is answered that the chapter names first.
func TestDoOrder(t *testing.T) {
	type fault struct {
		make func(db *[]api.Rel, s *api.Stmt)
		want api.Errno
	}
	bad := fault{func(db *[]api.Rel, _ *api.Stmt) { (*db)[1].Rows = rows(t, "1") }, api.ErrArg}
	wrong := fault{func(_ *[]api.Rel, s *api.Stmt) { s.Role = "r" }, api.ErrArg}
	none := fault{func(_ *[]api.Rel, s *api.Stmt) { s.Table = "nowhere" }, api.ErrNone}
	where := fault{func(_ *[]api.Rel, s *api.Stmt) { s.Where = cond(t, "z") }, api.ErrName}
	set := func(c string) func(db *[]api.Rel, s *api.Stmt) {
		return func(_ *[]api.Rel, s *api.Stmt) {
			s.Sets = append(s.Sets, parsed(t, "UPDATE t SET "+c).Sets...)
		}
	}
	cell := func(i int, v api.Value) func(db *[]api.Rel, s *api.Stmt) {
		return func(_ *[]api.Rel, s *api.Stmt) { s.Row[i] = v }
	}
	for s, faults := range map[string][]fault{
		"CREATE TABLE x (k INT, s TEXT, KEY (k))": {bad, wrong,
			{func(_ *[]api.Rel, s *api.Stmt) { s.Cols = append(s.Cols, s.Cols[0]) }, api.ErrThere},
			{func(_ *[]api.Rel, s *api.Stmt) { s.Uniques = []string{"z"} }, api.ErrName},
			{func(_ *[]api.Rel, s *api.Stmt) { s.Check = cond(t, "k") }, api.ErrType},
			{func(_ *[]api.Rel, s *api.Stmt) { s.Table = "v" }, api.ErrThere},
			{func(db *[]api.Rel, _ *api.Stmt) {
				*db = append(*db, named("wa", "wb", "wc", "wd", "we", "wf", "wg", "wh")...)
			}, api.ErrFull},
			{func(_ *[]api.Rel, s *api.Stmt) { s.Refs = []api.Ref{{Col: "k", Table: "z"}} }, api.ErrRef}},
		"DROP TABLE t":    {bad, wrong, none, {func(*[]api.Rel, *api.Stmt) {}, api.ErrRef}},
		"DELETE FROM t":   {bad, wrong, none, where, {func(*[]api.Rel, *api.Stmt) {}, api.ErrRef}},
		"SELECT * FROM t": {bad, wrong, none, where},
		"INSERT INTO v VALUES (5, 1, 1)": {bad, wrong, none,
			{func(db *[]api.Rel, _ *api.Stmt) {
				for i := len((*db)[2].Rows); i < api.MaxRows; i++ {
					(*db)[2].Rows = append((*db)[2].Rows, []api.Value{num(int64(i + 100)), {}, {}})
				}
			}, api.ErrFull},
			{func(_ *[]api.Rel, s *api.Stmt) { s.Row = append(s.Row, num(1)) }, api.ErrArg},
			{cell(2, text("a")), api.ErrType},
			{cell(0, num(4)), api.ErrThere},
			{cell(1, num(9)), api.ErrRef}},
		"UPDATE v SET r = 4": {bad, wrong, none, {set("z = 1"), api.ErrName}, {set("r = 1"), api.ErrThere}, {set("d = 'a'"), api.ErrType}, where,
			{set("n = NULL"), api.ErrNull}, {func(*[]api.Rel, *api.Stmt) {}, api.ErrRef}},
	} {
		for bits := range 1 << len(faults) {
			db, x, want := three(t), parsed(t, s), api.OK
			for i, f := range faults {
				if bits>>i&1 == 0 {
					continue
				}
				f.make(&db, &x)
				if want == api.OK {
					want = f.want
				}
			}
			// The last fault of these is there from the beginning on.
			if want == api.OK && !strings.HasPrefix(s, "CREATE") && !strings.HasPrefix(s, "INSERT") {
				want = faults[len(faults)-1].want
				if strings.HasPrefix(s, "SELECT") {
					want = api.OK
				}
			}
			if _, a := done(t, db, x); a.E != want {
				t.Errorf("%s, faults %b: %d, not %d", s, bits, a.E, want)
			}
		}
	}
}

// R3: a statement's parts, the rows of an answer, and a base have nothing in common that is changed later.
func TestDoOwn(t *testing.T) {
	s := parsed(t, "INSERT INTO t VALUES (4, 'd')")
	db, _ := base.Do(three(t), s)
	s.Row[0] = num(9)
	if told(db[0].Rows) != "1, 'a'; 2, NULL; 3, 'c'; 4, 'd'" {
		t.Errorf("the row is the statement's: %s", told(db[0].Rows))
	}
	s = parsed(t, "CREATE TABLE x (k INT, r INT, KEY (k), UNIQUE (r), REFERENCES (r) t, CHECK (k < 5))")
	db, _ = base.Do(three(t), s)
	want, _ := schema.Of(s)
	s.Cols[1].Name, s.Uniques[0], s.Refs[0].Table, s.Check.L[0].S = "z", "z", "z", "z"
	if !schema.Same(db[4].T, want) {
		t.Errorf("the table has parts of the statement: %v", db[4].T)
	}
	for _, s := range []string{"SELECT * FROM t", "SELECT * FROM t WHERE TRUE"} {
		db, a := base.Do(three(t), parsed(t, s))
		a.Rows[0][0], a.Rows[1] = num(9), nil
		if !same(db, three(t)) {
			t.Errorf("%s: the rows are the base's", s)
		}
	}
}

// The chapter's examples.
func TestExamples(t *testing.T) {
	walk(t, nil, []step{
		{"SELECT * FROM t", api.ErrNone, 0},
		{"CREATE TABLE t (k INT, s TEXT, KEY (k))", api.OK, 1},
		{"CREATE TABLE v (n INT, r INT, KEY (n), REFERENCES (r) t)", api.OK, 1},
		{"INSERT INTO t VALUES (1, 'a')", api.OK, 1},
		{"INSERT INTO t VALUES (1, 'b')", api.ErrThere, 0},
		{"INSERT INTO v VALUES (1, 1)", api.OK, 1},
		{"DELETE FROM t WHERE k = 1", api.ErrRef, 0},
		{"DELETE FROM v", api.OK, 1},
		{"DELETE FROM t WHERE k = 1", api.OK, 1},
	})
}
