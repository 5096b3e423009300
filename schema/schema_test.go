package schema_test

import (
	"math"
	"slices"
	"strings"
	"testing"

	"caddis/api"
	"caddis/schema"
)

func num(n int64) api.Value { return api.Value{Kind: api.Int, I: n} }

func text(s string) api.Value { return api.Value{Kind: api.Text, S: s} }

func truth(n int64) api.Value { return api.Value{Kind: api.Bool, I: n} }

func lit(v api.Value) api.Expr { return api.Expr{Op: "lit", V: v} }

func col(s string) api.Expr { return api.Expr{Op: "col", S: s} }

func op(op string, l ...api.Expr) api.Expr { return api.Expr{Op: op, L: l} }

// deep is an expression so deep, of the column f.
func deep(depth int) api.Expr {
	e := col("f")
	for range depth - 1 {
		e = op("not", e)
	}
	return e
}

// broad is an expression of n cols with AND between, as level as can be: it has 2n - 1 nodes.
func broad(n int) api.Expr {
	if n == 1 {
		return col("f")
	}
	return op("and", broad(n/2), broad(n-n/2))
}

// shared is an expression of few parts that has very many nodes.
func shared() api.Expr {
	e := col("f")
	for range 100 {
		e = op("and", e, e)
	}
	return e
}

// cyclic is an expression that is a part of its own.
func cyclic() api.Expr {
	l := make([]api.Expr, 1)
	l[0] = api.Expr{Op: "not", L: l}
	return l[0]
}

// plain is a table with something in each part.
func plain() api.Table {
	return api.Table{
		Name:    "t",
		Cols:    []api.Column{{Name: "k", Type: api.Int, NotNull: true}, {Name: "s", Type: api.Text}, {Name: "f", Type: api.Bool}},
		Key:     0,
		Uniques: []int{1, 2},
		Refs:    []api.Foreign{{Col: 1, Table: "u"}, {Col: 0, Table: "t"}},
		Check:   op("or", op("<", col("k"), lit(num(5))), col("f")),
	}
}

// with is plain, changed.
func with(change func(t *api.Table)) api.Table {
	t := plain()
	change(&t)
	return t
}

// cols is a table of so many columns and of nothing more than must be.
func cols(n int) api.Table {
	t := api.Table{Name: "t", Key: n - 1}
	for i := range n {
		t.Cols = append(t.Cols, api.Column{Name: "c" + string(rune('a'+i)), Type: i%3 + 1, NotNull: true})
	}
	return t
}

// language has the words of the language, as the chapters 4 and 5 tell them.
func language() []string {
	return strings.Fields("AND OR NOT IS NULL TRUE FALSE CREATE TABLE INT TEXT BOOL KEY UNIQUE REFERENCES CHECK DROP INSERT INTO VALUES UPDATE SET WHERE DELETE FROM SELECT GRANT READ WRITE ON TO REVOKE MIGRATE COPY JOIN GROUP BY SUM")
}

// namesThatMay and namesThatMayNot are texts, by whether a name may be that.
func namesThatMay() []string {
	return []string{"a", "Z", "a1", "a_", "x_9Z", "null", "Key", "admin", strings.Repeat("a", api.MaxName), "A234567890_bcdef"}
}

func namesThatMayNot() []string {
	return append(language(), "", "1", "1a", "_a", "a b", " a", "a ", "a-b", "a'", "'a'", "a.b", "a\n", "a\x00", "é", "\xff", strings.Repeat("a", api.MaxName+1), strings.Repeat("a", 1<<16))
}

// P6.1: what each place of a name may be.
func TestMayNames(t *testing.T) {
	places := map[string]func(s string) api.Table{
		"Name":      func(s string) api.Table { return with(func(x *api.Table) { x.Name = s }) },
		"the key":   func(s string) api.Table { x := cols(2); x.Cols[1].Name = s; return x },
		"a column":  func(s string) api.Table { x := cols(2); x.Cols[0].Name = s; return x },
		"the last":  func(s string) api.Table { x := cols(8); x.Key = 0; x.Cols[7].Name = s; return x },
		"a Ref":     func(s string) api.Table { return with(func(x *api.Table) { x.Refs[0].Table = s }) },
		"the other": func(s string) api.Table { return with(func(x *api.Table) { x.Refs[1].Table = s }) },
	}
	for place, made := range places {
		for _, s := range namesThatMay() {
			if !schema.May(made(s)) {
				t.Errorf("%s may be %q", place, s)
			}
		}
		for _, s := range namesThatMayNot() {
			if schema.May(made(s)) {
				t.Errorf("%s may not be %q", place, s)
			}
		}
	}
}

// P6.1: 1 to MaxCols columns, each of which may be the key.
func TestMayCounts(t *testing.T) {
	for n := 1; n <= api.MaxCols; n++ {
		for key := range n {
			x := cols(n)
			x.Key = key
			if !schema.May(x) {
				t.Errorf("%d columns, key %d may be", n, key)
			}
		}
	}
	none := cols(0)
	none.Key = 0
	for _, x := range []api.Table{{}, {Name: "t"}, none, cols(api.MaxCols + 1), cols(26)} {
		if schema.May(x) {
			t.Errorf("%d columns may not be", len(x.Cols))
		}
	}
	x := cols(api.MaxCols + 1)
	x.Key = 0
	if schema.May(x) {
		t.Error("one column more may not be, wherever the key is")
	}
	// The words set no bound for these.
	for range 3 * api.MaxCols {
		x = plain()
		x.Uniques, x.Refs = append(x.Uniques, 1), append(x.Refs, api.Foreign{Col: 2, Table: "u"})
		if !schema.May(x) {
			t.Errorf("%d Uniques and %d Refs may be", len(x.Uniques), len(x.Refs))
		}
	}
}

// P6.1: no two columns of one name, whichever two.
func TestMayTwice(t *testing.T) {
	for n := 2; n <= api.MaxCols; n++ {
		for i := range n {
			for j := range i {
				x := cols(n)
				x.Cols[i].Name = x.Cols[j].Name
				if schema.May(x) {
					t.Errorf("of %d columns %d and %d have one name", n, j, i)
				}
			}
		}
	}
	x := cols(2)
	x.Cols[0].Name, x.Cols[1].Name = "a", "A"
	if !schema.May(x) {
		t.Error("a and A are two names")
	}
}

// far are places that are far from all there is.
func far() []int {
	return []int{math.MinInt, math.MinInt32, -2, -1, 1 << 20, math.MaxInt32, math.MaxInt}
}

// P6.1: types, and where NULL may not be.
func TestMayColumns(t *testing.T) {
	for _, kind := range append(far(), 0, 1, 2, 3, 4, 5) {
		for i := range 3 {
			x := cols(3)
			x.Cols[i].Type = kind
			if got, want := schema.May(x), 1 <= kind && kind <= 3; got != want {
				t.Errorf("type %d of column %d: %v", kind, i, got)
			}
		}
	}
	for bits := range 8 {
		for key := range 3 {
			x := cols(3)
			x.Key = key
			for i := range 3 {
				x.Cols[i].NotNull = bits>>i&1 == 1
			}
			if got, want := schema.May(x), bits>>key&1 == 1; got != want {
				t.Errorf("NOT NULL %03b, key %d: %v", bits, key, got)
			}
		}
	}
}

// P6.1: Key, Uniques and Refs are columns' places.
func TestMayPlaces(t *testing.T) {
	for _, place := range append(far(), 0, 1, 2, 3, 4, 7, 8) {
		want := 0 <= place && place < 3
		for what, x := range map[string]api.Table{
			"Key":           {Name: "t", Cols: cols(3).Cols, Key: place},
			"Unique":        with(func(x *api.Table) { x.Uniques = []int{place} }),
			"first Unique":  with(func(x *api.Table) { x.Uniques[0] = place }),
			"second Unique": with(func(x *api.Table) { x.Uniques[1] = place }),
			"Ref":           with(func(x *api.Table) { x.Refs = []api.Foreign{{Col: place, Table: "u"}} }),
			"first Ref":     with(func(x *api.Table) { x.Refs[0].Col = place }),
			"second Ref":    with(func(x *api.Table) { x.Refs[1].Col = place }),
		} {
			if got := schema.May(x); got != want {
				t.Errorf("%s at %d: %v", what, place, got)
			}
		}
	}
}

// checks are checks over plain's columns, and what is wrong with each.
func checks() []struct {
	e    api.Expr
	want api.Errno
} {
	return []struct {
		e    api.Expr
		want api.Errno
	}{
		{api.Expr{}, api.OK},
		{api.Expr{L: []api.Expr{}}, api.OK},
		{lit(api.Value{}), api.OK},
		{lit(truth(0)), api.OK},
		{lit(truth(1)), api.OK},
		{col("f"), api.OK},
		{op("null", col("k")), api.OK},
		{op("=", col("s"), lit(text("a"))), api.OK},
		{op("<", col("k"), lit(api.Value{})), api.OK},
		{op("and", col("f"), op("not", lit(api.Value{}))), api.OK},
		{deep(api.MaxDepth), api.OK},
		{broad(30), api.OK},
		{op("not", broad(30)), api.OK},
		{lit(num(1)), api.ErrType},
		{lit(text("TRUE")), api.ErrType},
		{col("k"), api.ErrType},
		{col("s"), api.ErrType},
		{op("+", col("k"), lit(num(1))), api.ErrType},
		{op("-", lit(api.Value{}), lit(api.Value{})), api.ErrType},
		{op("not", col("k")), api.ErrType},
		{op("=", col("s"), col("k")), api.ErrType},
		{op("and", col("f"), col("s")), api.ErrType},
		{op("and", col("s"), col("x")), api.ErrName},
		{op("and", op("not", col("s")), col("x")), api.ErrType},
		{op("and", col("x"), op("not", col("s"))), api.ErrName},
		{col("x"), api.ErrName},
		{col("F"), api.ErrName},
		{op("null", col("t")), api.ErrName},
		{col("NULL"), api.ErrArg},
		{api.Expr{S: "f"}, api.ErrArg},
		{api.Expr{V: num(1)}, api.ErrArg},
		{api.Expr{L: []api.Expr{{}}}, api.ErrArg},
		{api.Expr{Op: "x"}, api.ErrArg},
		{lit(api.Value{Kind: 4}), api.ErrArg},
		{op("not"), api.ErrArg},
		{op("and", col("f")), api.ErrArg},
		{deep(api.MaxDepth + 1), api.ErrArg},
		{op("not", op("not", broad(30))), api.ErrArg},
		{broad(31), api.ErrArg},
		{shared(), api.ErrArg},
		{cyclic(), api.ErrArg},
	}
}

// P6.1: a check is none, or Bool, or NULL's.
func TestMayCheck(t *testing.T) {
	for i, c := range checks() {
		x := with(func(x *api.Table) { x.Check = c.e })
		if got, want := schema.May(x), c.want == api.OK; got != want {
			t.Errorf("check %d: %v", i, got)
		}
	}
}

// tables are tables no two of which are the same; not all may be.
func tables() []api.Table {
	l := []api.Table{
		{}, plain(), cols(1), cols(2), cols(3), cols(api.MaxCols + 1),
		with(func(x *api.Table) { x.Name = "T" }),
		with(func(x *api.Table) { x.Key = 1 }),
		with(func(x *api.Table) { x.Key = -1 }),
		with(func(x *api.Table) { x.Cols[1].Name = "S" }),
		with(func(x *api.Table) { x.Cols[1].Type = api.Int }),
		with(func(x *api.Table) { x.Cols[2].NotNull = true }),
		with(func(x *api.Table) { slices.Reverse(x.Cols) }),
		with(func(x *api.Table) { x.Cols = x.Cols[:2] }),
		with(func(x *api.Table) { x.Uniques = nil }),
		with(func(x *api.Table) { x.Uniques = []int{1} }),
		with(func(x *api.Table) { x.Uniques = []int{2, 1} }),
		with(func(x *api.Table) { x.Uniques = []int{1, 2, 2} }),
		with(func(x *api.Table) { x.Refs = nil }),
		with(func(x *api.Table) { x.Refs = x.Refs[:1] }),
		with(func(x *api.Table) { x.Refs[0].Table = "v" }),
		with(func(x *api.Table) { x.Refs[0].Col = 2 }),
		with(func(x *api.Table) { slices.Reverse(x.Refs) }),
	}
	for _, c := range checks()[1:29] {
		l = append(l, with(func(x *api.Table) { x.Check = c.e }))
	}
	return l
}

// P6.1: Same, part by part.
func TestSame(t *testing.T) {
	l, again := tables(), tables()
	for i, a := range l {
		for j, b := range again {
			if schema.Same(a, b) != (i == j) {
				t.Errorf("Same of %d and %d: %v", i, j, i != j)
			}
		}
	}
	empty := api.Table{Cols: []api.Column{}, Uniques: []int{}, Refs: []api.Foreign{}, Check: api.Expr{L: []api.Expr{}}}
	if !schema.Same(api.Table{}, empty) || !schema.Same(empty, api.Table{}) {
		t.Error("nil and empty lists are the same")
	}
	full := cols(2)
	full.Uniques, full.Refs, full.Check.L = []int{}, []api.Foreign{}, []api.Expr{}
	if !schema.Same(full, cols(2)) || !schema.May(full) {
		t.Error("nil and empty lists are the same, in a table that may be, too")
	}
}

// P6.1: the place of the first column of a name, of any table.
func TestPlace(t *testing.T) {
	for n := range 27 {
		x := cols(n)
		for i, c := range x.Cols {
			if got := schema.Place(x, c.Name); got != i {
				t.Errorf("of %d columns %s is at %d, not %d", n, c.Name, i, got)
			}
		}
		for _, s := range []string{"", "c", "CA", "cz_", "NULL", "t"} {
			if got := schema.Place(x, s); got != -1 {
				t.Errorf("of %d columns none is %q: %d", n, s, got)
			}
		}
	}
	x := api.Table{Cols: []api.Column{{Name: "b"}, {Name: "a"}, {Name: "b"}, {Name: "a"}, {Name: ""}}}
	for s, want := range map[string]int{"a": 1, "b": 0, "": 4, "c": -1} {
		if got := schema.Place(x, s); got != want {
			t.Errorf("Place of %q: %d", s, got)
		}
	}
}

// R3: what is handed in is not changed.
func TestLeftAlone(t *testing.T) {
	x := plain()
	row := []api.Value{num(1), text("a"), {}}
	schema.May(x)
	schema.Same(x, x)
	schema.Place(x, "f")
	schema.Fits(x, row)
	schema.Key(x, row)
	if !schema.Same(x, plain()) || !slices.Equal(row, []api.Value{num(1), text("a"), {}}) {
		t.Error("a table, or a row, was changed")
	}
}
