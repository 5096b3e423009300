package schema_test

import (
	"slices"
	"strings"
	"testing"

	"caddis/api"
	"caddis/schema"
	"caddis/stmt"
)

// parsed is a text's statement.
func parsed(t *testing.T, s string) api.Stmt {
	t.Helper()
	x, e := stmt.Parse(s)
	if e != api.OK {
		t.Fatalf("%s is no statement", s)
	}
	return x
}

// creates are texts of creates, and their tables as the chapter tells them.
func creates() map[string]api.Table {
	k, kn := api.Column{Name: "k", Type: api.Int}, api.Column{Name: "k", Type: api.Int, NotNull: true}
	s, sn := api.Column{Name: "s", Type: api.Text}, api.Column{Name: "s", Type: api.Text, NotNull: true}
	f, fn := api.Column{Name: "f", Type: api.Bool}, api.Column{Name: "f", Type: api.Bool, NotNull: true}
	l := func(c ...api.Column) []api.Column { return c }
	return map[string]api.Table{
		"CREATE TABLE t (k INT, KEY (k))":                                     {Name: "t", Cols: l(kn)},
		"CREATE TABLE t (k INT NOT NULL, KEY (k))":                            {Name: "t", Cols: l(kn)},
		"CREATE TABLE u (s TEXT, k INT, KEY (k))":                             {Name: "u", Cols: l(s, kn), Key: 1},
		"CREATE TABLE u (s TEXT NOT NULL, k INT, KEY (k))":                    {Name: "u", Cols: l(sn, kn), Key: 1},
		"CREATE TABLE u (s TEXT, k INT, f BOOL, KEY (f))":                     {Name: "u", Cols: l(s, k, fn), Key: 2},
		"CREATE TABLE u (s TEXT, k INT, f BOOL, KEY (s), CHECK (f))":          {Name: "u", Cols: l(sn, k, f), Check: col("f")},
		"CREATE TABLE t (k INT, KEY (k), CHECK (NULL))":                       {Name: "t", Cols: l(kn), Check: lit(api.Value{})},
		"CREATE TABLE t (k INT, KEY (k), CHECK (k < 5))":                      {Name: "t", Cols: l(kn), Check: op("<", col("k"), lit(num(5)))},
		"CREATE TABLE t (k INT, KEY (k), UNIQUE (k))":                         {Name: "t", Cols: l(kn), Uniques: []int{0}},
		"CREATE TABLE t (k INT, KEY (k), UNIQUE (k), UNIQUE (k))":             {Name: "t", Cols: l(kn), Uniques: []int{0, 0}},
		"CREATE TABLE t (k INT, s TEXT, KEY (k), UNIQUE (s), UNIQUE (k))":     {Name: "t", Cols: l(kn, s), Uniques: []int{1, 0}},
		"CREATE TABLE t (k INT, s TEXT, KEY (k), REFERENCES (s) t)":           {Name: "t", Cols: l(kn, s), Refs: []api.Foreign{{Col: 1, Table: "t"}}},
		"CREATE TABLE t (k INT, KEY (k), REFERENCES (k) u, REFERENCES (k) v)": {Name: "t", Cols: l(kn), Refs: []api.Foreign{{Col: 0, Table: "u"}, {Col: 0, Table: "v"}}},
		"CREATE TABLE t (f BOOL, s TEXT, k INT, KEY (s), UNIQUE (k), REFERENCES (f) u, REFERENCES (k) v, CHECK (f AND s IS NULL))": {
			Name: "t", Cols: l(f, sn, k), Key: 1, Uniques: []int{2}, Refs: []api.Foreign{{Col: 0, Table: "u"}, {Col: 2, Table: "v"}}, Check: op("and", col("f"), op("null", col("s")))},
		"CREATE TABLE t (a INT, b INT, c INT, d INT, e INT, f INT, g INT, h INT, KEY (h), UNIQUE (a), UNIQUE (b), UNIQUE (c), UNIQUE (d), UNIQUE (e), UNIQUE (f), UNIQUE (g), UNIQUE (h), REFERENCES (h) a, REFERENCES (g) b, REFERENCES (f) c, REFERENCES (e) d, REFERENCES (d) e, REFERENCES (c) f, REFERENCES (b) g, REFERENCES (a) h)": {
			Name: "t", Cols: eight(), Key: 7, Uniques: []int{0, 1, 2, 3, 4, 5, 6, 7},
			Refs: []api.Foreign{{Col: 7, Table: "a"}, {Col: 6, Table: "b"}, {Col: 5, Table: "c"}, {Col: 4, Table: "d"}, {Col: 3, Table: "e"}, {Col: 2, Table: "f"}, {Col: 1, Table: "g"}, {Col: 0, Table: "h"}}},
	}
}

// eight is as many columns as may be, of numbers, the last one a key's.
func eight() []api.Column {
	var l []api.Column
	for _, name := range strings.Split("abcdefgh", "") {
		l = append(l, api.Column{Name: name, Type: api.Int, NotNull: name == "h"})
	}
	return l
}

// P6.2: the table of a create. P6.4: it may be.
func TestOf(t *testing.T) {
	for s, want := range creates() {
		got, e := schema.Of(parsed(t, s))
		if e != api.OK || !schema.Same(got, want) {
			t.Errorf("Of %s: %v, %d", s, got, e)
		}
		if !schema.May(got) {
			t.Errorf("the table of %s may be", s)
		}
	}
}

// P6.2: the errors, one by one.
func TestOfErrors(t *testing.T) {
	for s, want := range map[string]api.Errno{
		"DROP TABLE t":                                                        api.ErrArg,
		"INSERT INTO t VALUES (1)":                                            api.ErrArg,
		"UPDATE t SET k = 1":                                                  api.ErrArg,
		"DELETE FROM t":                                                       api.ErrArg,
		"SELECT * FROM t":                                                     api.ErrArg,
		"GRANT READ ON t TO r":                                                api.ErrArg,
		"GRANT WRITE ON t TO r":                                               api.ErrArg,
		"REVOKE READ ON t FROM r":                                             api.ErrArg,
		"REVOKE WRITE ON t FROM r":                                            api.ErrArg,
		"MIGRATE COPY u FROM t (k)":                                           api.ErrArg,
		"MIGRATE JOIN u FROM t, r ON k":                                       api.ErrArg,
		"MIGRATE GROUP u FROM t BY k SUM d":                                   api.ErrArg,
		"CREATE TABLE t (k INT, k INT, KEY (k))":                              api.ErrThere,
		"CREATE TABLE t (a INT, k INT, b TEXT, k BOOL, KEY (a))":              api.ErrThere,
		"CREATE TABLE t (k INT, KEY (x))":                                     api.ErrName,
		"CREATE TABLE t (k INT, KEY (t))":                                     api.ErrName,
		"CREATE TABLE t (k INT, KEY (k), UNIQUE (x))":                         api.ErrName,
		"CREATE TABLE t (k INT, KEY (k), UNIQUE (k), UNIQUE (K))":             api.ErrName,
		"CREATE TABLE t (k INT, KEY (k), UNIQUE (x), UNIQUE (k))":             api.ErrName,
		"CREATE TABLE t (k INT, KEY (k), REFERENCES (x) u)":                   api.ErrName,
		"CREATE TABLE t (k INT, KEY (k), REFERENCES (u) u)":                   api.ErrName,
		"CREATE TABLE t (k INT, KEY (k), REFERENCES (x) u, REFERENCES (k) u)": api.ErrName,
		"CREATE TABLE t (k INT, KEY (k), CHECK (x))":                          api.ErrName,
		"CREATE TABLE t (k INT, KEY (k), CHECK (k))":                          api.ErrType,
		"CREATE TABLE t (k INT, KEY (k), CHECK (5))":                          api.ErrType,
		"CREATE TABLE t (k TEXT, KEY (k), CHECK (k))":                         api.ErrType,
		"CREATE TABLE t (k INT, KEY (k), CHECK (k + 1))":                      api.ErrType,
		"CREATE TABLE t (k INT, KEY (k), CHECK (NOT k))":                      api.ErrType,
		"CREATE TABLE t (k INT, KEY (k), CHECK (NOT k OR x))":                 api.ErrType,
		"CREATE TABLE t (k INT, KEY (k), CHECK (x OR NOT k))":                 api.ErrName,
		"CREATE TABLE t (k INT, KEY (k), CHECK (k = 'a'))":                    api.ErrType,
	} {
		got, e := schema.Of(parsed(t, s))
		if e != want || !schema.Same(got, api.Table{}) {
			t.Errorf("Of %s: %v, %d, not %d", s, got, e, want)
		}
	}
}

// P6.2, R2: of faults that apply together the one is answered that the chapter names first.
func TestOfOrder(t *testing.T) {
	faults := []struct {
		make func(s *api.Stmt)
		want api.Errno
	}{
		{func(s *api.Stmt) { s.Role = "r" }, api.ErrArg},
		{func(s *api.Stmt) { s.Cols = append(s.Cols, s.Cols[1]) }, api.ErrThere},
		{func(s *api.Stmt) { s.Key = "x" }, api.ErrName},
		{func(s *api.Stmt) { s.Uniques = append(s.Uniques, "x") }, api.ErrName},
		{func(s *api.Stmt) { s.Refs = append(s.Refs, api.Ref{Col: "x", Table: "u"}) }, api.ErrName},
		{func(s *api.Stmt) { s.Check = col("k") }, api.ErrType},
		{func(s *api.Stmt) { s.Check = op("not", col("k")) }, api.ErrType},
	}
	for bits := range 1 << len(faults) {
		s := parsed(t, "CREATE TABLE t (k INT, s TEXT, KEY (k), UNIQUE (s), REFERENCES (k) u, CHECK (k < 5))")
		want := api.OK
		for i, f := range faults {
			if bits>>i&1 == 0 {
				continue
			}
			f.make(&s)
			if want == api.OK {
				want = f.want
			}
		}
		got, e := schema.Of(s)
		if e != want || schema.May(got) != (e == api.OK) {
			t.Errorf("faults %07b: %d, not %d", bits, e, want)
		}
	}
}

// P6.2: what is wrong with a check, and a statement that may not be.
func TestOfCheck(t *testing.T) {
	for i, c := range checks() {
		s := parsed(t, "CREATE TABLE t (k INT, s TEXT, f BOOL, KEY (k))")
		s.Check = c.e
		got, e := schema.Of(s)
		if e != c.want {
			t.Errorf("check %d: %d, not %d", i, e, c.want)
		}
		want := with(func(x *api.Table) { x.Check, x.Uniques, x.Refs = c.e, nil, nil })
		if e == api.OK && !schema.Same(got, want) {
			t.Errorf("check %d: %v", i, got)
		}
	}
	for i, s := range []api.Stmt{{}, {Op: "create"}, {Op: "create", Table: "t"}, {Op: "create", Table: "t", Key: "k"}, {Op: "create", Table: "t", Cols: eight()}, {Op: "create", Table: "NULL", Cols: eight(), Key: "a"}, {Op: "CREATE", Table: "t", Cols: eight(), Key: "a"}, {Op: "create", Table: "t", Cols: append(eight(), api.Column{Name: "i", Type: api.Int}), Key: "a"}, {Op: "create", Table: "t", Cols: []api.Column{{Name: "a", Type: 4}}, Key: "a"}, {Op: "create", Table: "t", Cols: []api.Column{{Name: "a"}}, Key: "a"}} {
		if got, e := schema.Of(s); e != api.ErrArg || !schema.Same(got, api.Table{}) {
			t.Errorf("statement %d: %v, %d", i, got, e)
		}
	}
}

// R3: a statement is not changed, and its table is in memory of its own.
func TestOfOwn(t *testing.T) {
	const text = "CREATE TABLE t (k INT, s TEXT, KEY (k), UNIQUE (s), REFERENCES (s) u, CHECK (k < 5 OR NOT s IS NULL))"
	s := parsed(t, text)
	first, e := schema.Of(s)
	if e != api.OK || !stmt.Same(s, parsed(t, text)) {
		t.Fatal("the statement was changed")
	}
	first.Cols[1].Name, first.Uniques[0], first.Refs[0].Table = "x", 0, "x"
	first.Check.L[0].L[0].S, first.Check.L[1].L[0].L[0].S = "x", "x"
	if !stmt.Same(s, parsed(t, text)) {
		t.Error("the table has parts of the statement")
	}
	second, _ := schema.Of(s)
	s.Cols[0].Name, s.Uniques[0], s.Refs[0].Col, s.Check.L[0].L[0].S = "x", "x", "x", "x"
	s.Check.L[1].L[0] = col("x")
	if third, _ := schema.Of(parsed(t, text)); !schema.Same(second, third) {
		t.Error("the statement has parts of the table")
	}
	if slices.ContainsFunc(second.Cols, func(c api.Column) bool { return c.Name == "x" }) {
		t.Error("two tables have a part in common")
	}
}
