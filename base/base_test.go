package base_test

import (
	"slices"
	"strings"
	"testing"

	"caddis/api"
	"caddis/base"
	"caddis/rel"
	"caddis/schema"
	"caddis/stmt"
	"caddis/value"
)

func num(n int64) api.Value { return api.Value{Kind: api.Int, I: n} }

func text(s string) api.Value { return api.Value{Kind: api.Text, S: s} }

// parsed is a text's statement.
func parsed(t testing.TB, s string) api.Stmt {
	t.Helper()
	x, e := stmt.Parse(s)
	if e != api.OK {
		t.Fatalf("%s is no statement", s)
	}
	return x
}

// table is the table of what stands behind CREATE TABLE.
func table(t testing.TB, s string) api.Table {
	t.Helper()
	x, e := schema.Of(parsed(t, "CREATE TABLE "+s))
	if e != api.OK {
		t.Fatalf("%s is no table: %d", s, e)
	}
	return x
}

// cond is a condition's expression.
func cond(t testing.TB, s string) api.Expr {
	t.Helper()
	return parsed(t, "SELECT * FROM t WHERE "+s).Where
}

// rows are rows as an INSERT has them, with a ; between each two.
func rows(t testing.TB, s string) [][]api.Value {
	t.Helper()
	var l [][]api.Value
	for _, row := range strings.Split(s, ";") {
		if strings.TrimSpace(row) != "" {
			l = append(l, parsed(t, "INSERT INTO t VALUES ("+row+")").Row)
		}
	}
	return l
}

// made is tables with rows, as they stand: of each what stands behind CREATE TABLE, and its rows.
func made(t testing.TB, l ...string) []api.Rel {
	t.Helper()
	var db []api.Rel
	for i := 0; i+1 < len(l); i += 2 {
		db = append(db, api.Rel{T: table(t, l[i]), Rows: rows(t, l[i+1])})
	}
	return db
}

// told is rows as they are written, with a ; between each two.
func told(l [][]api.Value) string {
	var s []string
	for _, row := range l {
		var r []string
		for _, v := range row {
			r = append(r, value.Text(v))
		}
		s = append(s, strings.Join(r, ", "))
	}
	return strings.Join(s, "; ")
}

// shown is tables' names, and their rows.
func shown(db []api.Rel) string {
	var s []string
	for _, x := range db {
		s = append(s, x.T.Name+": "+told(x.Rows))
	}
	return strings.Join(s, " | ")
}

// copied is the same tables in memory of their own.
func copied(db []api.Rel) []api.Rel {
	var l []api.Rel
	for _, x := range db {
		l = append(l, rel.Copy(x))
	}
	return l
}

// same: the same tables, told without base?
func same(a, b []api.Rel) bool {
	if len(a) != len(b) {
		return false
	}
	for i := range a {
		if !rel.Same(a[i], b[i]) {
			return false
		}
	}
	return true
}

// named is empty tables of these names, as they stand.
func named(names ...string) []api.Rel {
	var db []api.Rel
	for _, s := range names {
		db = append(db, api.Rel{T: api.Table{Name: s, Cols: []api.Column{{Name: "k", Type: api.Int, NotNull: true}}}})
	}
	return db
}

// letters is n empty tables of names that rise.
func letters(n int) []api.Rel {
	var names []string
	for i := range n {
		names = append(names, string([]byte{'a' + byte(i/26%26), 'a' + byte(i%26)}))
	}
	return named(names...)
}

// counted is rows of the keys 1 to n, and NULL behind each key.
func counted(n int) [][]api.Value {
	var l [][]api.Value
	for i := range n {
		l = append(l, []api.Value{num(int64(i + 1)), {}})
	}
	return l
}

// three is a base that may be: v refers to t, and w to itself; u has no rows, and the key in the second place.
func three(t testing.TB) []api.Rel {
	return made(t,
		"t (k INT, s TEXT, KEY (k), UNIQUE (s), CHECK (k < 100))", "1, 'a'; 2, NULL; 3, 'c'",
		"u (s TEXT, k INT, KEY (k))", "",
		"v (n INT, r INT, d INT, KEY (n), REFERENCES (r) t)", "1, 1, 5; 2, 1, NULL; 3, NULL, 7; 4, 3, 7",
		"w (k INT, up INT, KEY (k), REFERENCES (up) w)", "1, NULL; 2, 1; 3, 2; 4, 4")
}

// bases are bases no two of which are the same, made anew by each call; not all may be.
func bases(t testing.TB) [][]api.Rel {
	l := [][]api.Rel{nil, three(t), three(t)[:3], three(t)[1:], three(t)[3:], letters(api.MaxTables), letters(api.MaxTables + 1), named("b", "a"), named("a", "b"), named("a", "a"), named("a"), named(""), named("", ""), {{Rows: [][]api.Value{nil}}}}
	for _, change := range []func(db []api.Rel){
		func(db []api.Rel) { slices.Reverse(db) },
		func(db []api.Rel) { db[0].T.Name = "T" },
		func(db []api.Rel) { db[0].T.Name = "KEY" },
		func(db []api.Rel) { db[3].T.Key = 1 },
		func(db []api.Rel) { db[2].T.Refs = nil },
		func(db []api.Rel) { db[2].T.Refs[0].Table = "u" },
		func(db []api.Rel) { db[2].T.Refs[0].Table = "x" },
		func(db []api.Rel) { db[2].T.Refs[0].Col = 7 },
		func(db []api.Rel) { db[1].Rows = rows(t, "'a', 1") },
		func(db []api.Rel) { db[1].Rows = rows(t, "'a', 1; 'b', 1") },
		func(db []api.Rel) { db[1].Rows = rows(t, "'a', 2; 'b', 1") },
		func(db []api.Rel) { db[1].Rows = rows(t, "'a'") },
		func(db []api.Rel) { db[0].Rows = db[0].Rows[1:] },
		func(db []api.Rel) { db[0].Rows = nil },
		func(db []api.Rel) { db[2].Rows[0][1] = num(9) },
		func(db []api.Rel) { db[2].Rows[0][1] = api.Value{Kind: 4} },
		func(db []api.Rel) { db[0].T.Check = api.Expr{S: "k"} },
	} {
		db := three(t)
		change(db)
		l = append(l, db)
	}
	return l
}

// P8.1: the place of the table of that name.
func TestFind(t *testing.T) {
	db := three(t)
	for s, want := range map[string]int{"t": 0, "u": 1, "v": 2, "w": 3, "": -1, "a": -1, "T": -1, "tt": -1, "uv": -1, "x": -1, "NULL": -1, "t ": -1, strings.Repeat("t", 1<<16): -1} {
		if got := base.Find(db, s); got != want {
			t.Errorf("%q is at %d, not %d", s, got, want)
		}
		if got := base.Find(nil, s); got != -1 {
			t.Errorf("%q is at %d in no base", s, got)
		}
	}
	for n := range 30 {
		for i, x := range letters(n) {
			if got := base.Find(letters(n), x.T.Name); got != i {
				t.Errorf("of %d tables %s is at %d, not %d", n, x.T.Name, got, i)
			}
		}
	}
	// The names need not rise, nor be names, nor be there once.
	db = named("c", "a", "", "b", "a", "KEY")
	for s, want := range map[string]int{"c": 0, "a": 1, "": 2, "b": 3, "KEY": 5, "d": -1, "k": -1} {
		if got := base.Find(db, s); got != want {
			t.Errorf("%q is at %d, not %d", s, got, want)
		}
	}
}

// P8.1: each is the same as itself, made anew, and no other one is.
func TestSame(t *testing.T) {
	l, again := bases(t), bases(t)
	for i, a := range l {
		for j, b := range again {
			if base.Same(a, b) != (i == j) {
				t.Errorf("Same of %d and %d: %v", i, j, i != j)
			}
		}
	}
	// R2: a list that is nil and one without elements are the same.
	empty := named("a")
	empty[0].Rows, empty[0].T.Uniques, empty[0].T.Refs = [][]api.Value{}, []int{}, []api.Foreign{}
	if !base.Same(nil, []api.Rel{}) || !base.Same([]api.Rel{}, nil) || !base.Same(named("a"), empty) || !base.Same(empty, named("a")) {
		t.Error("nil and empty lists are the same")
	}
}

// P8.1: with a table of each name, in its place, or where it goes.
func TestWith(t *testing.T) {
	all := strings.Fields("A a a1 aA a_ aa ab b ba z")
	for bits := range 1 << len(all) {
		var names []string
		for i, s := range all {
			if bits>>i&1 == 1 {
				names = append(names, s)
			}
		}
		db := named(names...)
		for _, s := range all {
			x := named(s)[0]
			x.Rows = counted(1)
			got := base.With(db, x)
			want := names
			if !slices.Contains(names, s) {
				want = slices.Sorted(slices.Values(append(slices.Clone(names), s)))
			}
			for i, y := range got {
				if len(got) != len(want) || y.T.Name != want[i] || len(y.Rows) == 1 != (y.T.Name == s) {
					t.Fatalf("%v with %s: %s", names, s, shown(got))
				}
			}
			if !same(db, named(names...)) {
				t.Fatalf("%v with %s: it was changed to %s", names, s, shown(db))
			}
		}
	}
}

// P8.1: the whole table goes in, as it is, and all others stay.
func TestWithTable(t *testing.T) {
	for i, x := range three(t) {
		db := three(t)
		other := x
		other.T.Uniques, other.Rows = []int{0}, rows(t, "7, 7, 7; 6")
		want := three(t)
		want[i] = rel.Copy(other)
		if got := base.With(db, other); !same(got, want) || !same(db, three(t)) {
			t.Errorf("with another %s: %s", x.T.Name, shown(got))
		}
		if got := base.With(base.Without(db, x.T.Name), x); !same(got, three(t)) {
			t.Errorf("without %s, and with it: %s", x.T.Name, shown(got))
		}
		if got := base.With(db, x); !same(got, db) {
			t.Errorf("with the same %s: %s", x.T.Name, shown(got))
		}
	}
	x := named("x")[0]
	if got := base.With(nil, x); !same(got, named("x")) {
		t.Errorf("nothing, with x: %s", shown(got))
	}
	// A base may be none, and have more tables than may be.
	if got := base.With(letters(api.MaxTables), x); len(got) != api.MaxTables+1 || !same(got[:api.MaxTables], letters(api.MaxTables)) || got[api.MaxTables].T.Name != "x" {
		t.Errorf("a full base with x: %s", shown(got))
	}
	if got := base.With(named("b"), api.Rel{}); !same(got, append([]api.Rel{{}}, named("b")...)) {
		t.Errorf("b with what is no table: %s", shown(got))
	}
	if got := base.With(named("c", "a"), named("a")[0]); !same(got, named("c", "a")) {
		t.Errorf("c, a with a: %s", shown(got))
	}
}

// P8.1: without that table.
func TestWithout(t *testing.T) {
	for i, x := range three(t) {
		db := three(t)
		if got := base.Without(db, x.T.Name); !same(got, slices.Delete(three(t), i, i+1)) || !same(db, three(t)) {
			t.Errorf("without %s: %s", x.T.Name, shown(got))
		}
	}
	for _, s := range []string{"", "a", "T", "tt", "x", "KEY"} {
		if got := base.Without(three(t), s); !same(got, three(t)) {
			t.Errorf("without %q: %s", s, shown(got))
		}
		if got := base.Without(nil, s); len(got) != 0 {
			t.Errorf("nothing, without %q: %s", s, shown(got))
		}
	}
	if got := base.Without(named("a"), "a"); len(got) != 0 {
		t.Errorf("a, without a: %s", shown(got))
	}
	if got := base.Without(named("b", "", "a"), ""); !same(got, named("b", "a")) {
		t.Errorf("without the table of no name: %s", shown(got))
	}
	if got := base.Find(base.Without(named("a", "b", "a"), "a"), "a"); got != -1 {
		t.Errorf("without a, it is at %d", got)
	}
}

// roomy is a base with room behind it, and behind each of its lists, that has something in it.
func roomy(t testing.TB) []api.Rel {
	db := append(three(t), named("y", "z")...)
	for i := range db {
		db[i].Rows = append(db[i].Rows, rows(t, "8, 8, 8; 9, 9, 9")...)
		db[i].Rows = db[i].Rows[:len(db[i].Rows)-2]
		for j, row := range db[i].Rows {
			db[i].Rows[j] = append(row, num(77), num(78))[:len(row)]
		}
		db[i].T.Refs = append(db[i].T.Refs, api.Foreign{Col: 5, Table: "y"})[:len(db[i].T.Refs)]
	}
	return db[:4]
}

// deep is all that is in a base, and in the room behind it.
func deep(db []api.Rel) []api.Rel {
	l := copied(db[:cap(db)])
	for i, x := range db[:cap(db)] {
		l[i].T.Refs = slices.Clone(x.T.Refs[:cap(x.T.Refs)])
		l[i].Rows = nil
		for _, row := range x.Rows[:cap(x.Rows)] {
			l[i].Rows = append(l[i].Rows, slices.Clone(row[:cap(row)]))
		}
	}
	return l
}

// R3: what is handed in is not changed, nor what stands in the room behind it.
func TestLeftAlone(t *testing.T) {
	db := roomy(t)
	before := deep(db)
	if !same(db, three(t)) {
		t.Fatal("roomy is no three")
	}
	base.Check(db)
	base.Same(db, db)
	base.Find(db, "v")
	for _, s := range []string{"a", "t", "tt", "v", "w", "x"} {
		base.With(db, named(s)[0])
		base.Without(db, s)
		base.Without(base.With(db, named(s)[0]), "t")
	}
	for _, s := range []string{
		"CREATE TABLE a (k INT, KEY (k), REFERENCES (k) a)", "CREATE TABLE x (k INT, KEY (k))", "CREATE TABLE t (k INT, KEY (k))",
		"DROP TABLE u", "DROP TABLE t", "DROP TABLE w", "DROP TABLE x",
		"INSERT INTO t VALUES (0, NULL)", "INSERT INTO t VALUES (4, NULL)", "INSERT INTO t VALUES (1, NULL)", "INSERT INTO v VALUES (9, 9, 9)", "INSERT INTO u VALUES ('a', 1)",
		"UPDATE t SET s = 'z' WHERE k = 1", "UPDATE v SET n = 0 - n, r = NULL, d = n", "UPDATE v SET r = 9", "UPDATE t SET k = 1", "UPDATE w SET k = k + 1, up = up + 1",
		"DELETE FROM t WHERE k = 2", "DELETE FROM t", "DELETE FROM v", "DELETE FROM v WHERE n < 3", "DELETE FROM w",
		"SELECT * FROM v", "SELECT * FROM v WHERE n < 3", "SELECT * FROM v WHERE z",
	} {
		x := parsed(t, s)
		base.Do(db, x)
		if !same(deep(db), before) || !stmt.Same(x, parsed(t, s)) {
			t.Fatalf("%s: what was handed in was changed to %s", s, shown(deep(db)))
		}
	}
}

// R3: what was answered is not changed by what is done with it later.
func TestLeftAloneAnswers(t *testing.T) {
	db, _ := base.Do(nil, parsed(t, "CREATE TABLE t (k INT, n INT, KEY (k))"))
	var kept, copies [][]api.Rel
	for _, s := range []string{
		"INSERT INTO t VALUES (5, 5)", "INSERT INTO t VALUES (3, 3)", "INSERT INTO t VALUES (4, 4)", "CREATE TABLE s (k INT, KEY (k))", "CREATE TABLE u (k INT, KEY (k))",
		"UPDATE t SET n = k + 1 WHERE k < 5", "INSERT INTO t VALUES (1, 1)", "DELETE FROM t WHERE k = 4", "INSERT INTO t VALUES (9, 9)", "DROP TABLE s", "UPDATE t SET k = 0 - k", "CREATE TABLE a (k INT, KEY (k))", "DROP TABLE u", "DELETE FROM t", "DROP TABLE t",
	} {
		kept, copies = append(kept, db), append(copies, copied(db))
		var a api.Answer
		if db, a = base.Do(db, parsed(t, s)); a.E != api.OK {
			t.Fatalf("%s: %d", s, a.E)
		}
		for i := range kept {
			if !same(kept[i], copies[i]) {
				t.Fatalf("%s: the base of step %d was changed to %s", s, i, shown(kept[i]))
			}
		}
	}
}
