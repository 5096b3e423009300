package rel_test

import (
	"slices"
	"testing"

	"caddis/api"
	"caddis/rel"
	"caddis/schema"
	"caddis/value"
)

// P7.1: what may be, and each error.
func TestCheck(t *testing.T) {
	const plain, unique = "k INT, s TEXT, KEY (k)", "k INT, s TEXT, KEY (k), UNIQUE (s)"
	const three = "a INT, k INT, b INT, KEY (k), UNIQUE (a), UNIQUE (b), UNIQUE (b)"
	for _, c := range []struct {
		table, rows string
		want        api.Errno
	}{
		{plain, "", api.OK},
		{plain, "1, 'a'", api.OK},
		{plain, "1, 'a'; 2, 'a'; 3, 'a'", api.OK},
		{plain, "-1, 'a'; 0, 'b'; 9223372036854775807, NULL", api.OK},
		{plain, "9, NULL; 10, NULL", api.OK},
		{plain, "1", api.ErrArg},
		{plain, "1, 'a', NULL", api.ErrArg},
		{plain, "1, 'a'; 2", api.ErrArg},
		{plain, "NULL, 'a'", api.ErrNull},
		{plain, "1, 'a'; NULL, 'a'", api.ErrNull},
		{plain, "'1', 'a'", api.ErrType},
		{plain, "1, 2", api.ErrType},
		{plain, "1, 'a'; 1, 'b'", api.ErrThere},
		{plain, "1, 'a'; 2, 'b'; 1, 'c'", api.ErrThere},
		{plain, "2, 'a'; 1, 'b'", api.ErrBad},
		{plain, "1, 'a'; 3, 'b'; 2, 'c'", api.ErrBad},
		{plain, "10, 'a'; 9, 'b'", api.ErrBad},
		{unique, "1, 'a'; 2, 'b'", api.OK},
		{unique, "1, NULL; 2, NULL; 3, NULL", api.OK},
		{unique, "1, 'NULL'; 2, NULL; 3, 'null'; 4, ''; 5, ' '", api.OK},
		{unique, "1, 'a'; 2, 'a'", api.ErrThere},
		{unique, "1, ''; 2, 'a'; 3, ''", api.ErrThere},
		{unique, "1, 'a'; 2, NULL; 3, NULL; 4, 'a'", api.ErrThere},
		{three, "1, 2, 3; 3, 4, 2; 2, 5, 1", api.OK},
		{three, "1, 1, 1; 2, 2, 2", api.OK},
		{three, "NULL, 1, NULL; NULL, 2, NULL", api.OK},
		{three, "1, 1, 3; 1, 2, 4", api.ErrThere},
		{three, "1, 1, 3; 2, 2, 3", api.ErrThere},
		{three, "1, 1, 3; 2, 1, 4", api.ErrThere},
		{three, "1, 2, 3; 2, 1, 4", api.ErrBad},
		{"k INT, KEY (k), UNIQUE (k)", "1; 2", api.OK},
		{"k INT, KEY (k), UNIQUE (k)", "1; 1", api.ErrThere},
		{"k INT, KEY (k), CHECK (k < 5)", "3; 4", api.OK},
		{"k INT, KEY (k), CHECK (k < 5)", "4; 5", api.ErrCheck},
		{"k INT, n INT NOT NULL, KEY (k)", "1, 1; 2, NULL", api.ErrNull},
		{"s TEXT, KEY (s)", "''; 'A'; 'B'; 'a'; 'aa'; 'b'", api.OK},
		{"s TEXT, KEY (s)", "'a'; 'B'", api.ErrBad},
		{"b BOOL, KEY (b)", "FALSE; TRUE", api.OK},
		{"b BOOL, KEY (b)", "TRUE; FALSE", api.ErrBad},
		{"b BOOL, KEY (b)", "FALSE; TRUE; TRUE", api.ErrThere},
	} {
		if got := rel.Check(made(t, c.table, c.rows)); got != c.want {
			t.Errorf("%s of %s: %d, not %d", c.rows, c.table, got, c.want)
		}
	}
}

// P7.1: none, MaxRows, and one more.
func TestCheckRows(t *testing.T) {
	x := made(t, "k INT, s TEXT, KEY (k), UNIQUE (s)", "")
	for _, n := range []int{0, 1, 2, api.MaxRows - 1, api.MaxRows, api.MaxRows + 1, api.MaxRows + 2, 1000} {
		x.Rows = counted(n)
		for _, row := range x.Rows {
			row[1] = text("s" + value.Text(row[0]))
		}
		want := api.OK
		if n > api.MaxRows {
			want = api.ErrFull
		}
		if got := rel.Check(x); got != want {
			t.Errorf("%d rows: %d", n, got)
		}
	}
	// What stands twice is met wherever it stands.
	x.Rows = counted(api.MaxRows)
	x.Rows[0][1], x.Rows[api.MaxRows-1][1] = text("a"), text("a")
	if got := rel.Check(x); got != api.ErrThere {
		t.Errorf("the first row and the last one: %d", got)
	}
}

// P7.1: tables and values that may not be, wherever they stand.
func TestCheckStrange(t *testing.T) {
	for i, x := range append(noTables(t), api.Table{}) {
		for _, l := range [][][]api.Value{nil, rows(t, "1, 'a'; 2, 'b'"), counted(api.MaxRows + 1)} {
			if got := rel.Check(api.Rel{T: x, Rows: l}); got != api.ErrArg {
				t.Errorf("table %d that may not be, %d rows: %d", i, len(l), got)
			}
		}
	}
	for _, v := range strange() {
		for i := range 3 {
			for col := range 2 {
				x := full(t)
				x.Rows[i][col] = v
				if got := rel.Check(x); got != api.ErrArg {
					t.Errorf("%v in row %d, column %d: %d", v, i, col, got)
				}
			}
		}
	}
}

// P7.1, R2: of faults that apply together the one is answered that the chapter names first.
func TestCheckOrder(t *testing.T) {
	faults := []struct {
		make func(x *api.Rel)
		want api.Errno
	}{
		{func(x *api.Rel) { x.T.Name = "" }, api.ErrArg},
		{func(x *api.Rel) { x.Rows = append(x.Rows, counted(api.MaxRows)...) }, api.ErrFull},
		{func(x *api.Rel) { x.Rows[1][1] = text("no") }, api.ErrCheck},
		{func(x *api.Rel) { x.Rows[2][0] = api.Value{} }, api.ErrNull},
		{func(x *api.Rel) { x.Rows[3][1] = num(1) }, api.ErrType},
		{func(x *api.Rel) { x.Rows[4][1] = api.Value{Kind: 4} }, api.ErrArg},
		{func(x *api.Rel) { x.Rows[5][0] = num(5) }, api.ErrThere},
		{func(x *api.Rel) { x.Rows[6][1] = text("a") }, api.ErrThere},
		{func(x *api.Rel) { x.Rows[7][0] = num(80) }, api.ErrBad},
	}
	for bits := range 1 << len(faults) {
		x := made(t, "k INT, s TEXT, KEY (k), UNIQUE (s), CHECK (NOT s = 'no')", "1, 'a'; 2, NULL; 3, NULL; 4, 'd'; 5, 'e'; 6, 'f'; 7, 'g'; 8, 'h'; 9, NULL")
		want := api.OK
		for i, f := range faults {
			if bits>>i&1 == 0 {
				continue
			}
			f.make(&x)
			if want == api.OK {
				want = f.want
			}
		}
		if got := rel.Check(x); got != want {
			t.Errorf("faults %09b: %d, not %d", bits, got, want)
		}
	}
}

// faulty is what the chapter says of at most MaxRows rows of a table that may be, told pair by pair.
func faulty(x api.Rel) api.Errno {
	for _, row := range x.Rows {
		if e := schema.Fits(x.T, row); e != api.OK {
			return e
		}
	}
	found := api.OK
	for i, a := range x.Rows {
		for _, b := range x.Rows[i+1:] {
			for _, col := range append([]int{x.T.Key}, x.T.Uniques...) {
				if value.Equal(a[col], b[col]) == truth(1) {
					return api.ErrThere
				}
			}
			if value.Order(a[x.T.Key], b[x.T.Key]) > 0 {
				found = api.ErrBad
			}
		}
	}
	return found
}

// each calls f with all lists of at most n rows of two of the values.
func each(l []api.Value, n int, f func(rows [][]api.Value)) {
	var add func(rows [][]api.Value)
	add = func(rows [][]api.Value) {
		f(rows)
		if len(rows) == n {
			return
		}
		for _, a := range l {
			for _, b := range l {
				add(append(slices.Clone(rows), []api.Value{a, b}))
			}
		}
	}
	add(nil)
}

// P7.1: all short lists of rows of few values, in tables of each kind.
func TestCheckAll(t *testing.T) {
	for _, s := range []string{"k INT, n INT, KEY (k)", "k INT, n INT, KEY (k), UNIQUE (n)", "n INT, k INT, KEY (k), UNIQUE (n), UNIQUE (k)", "k INT, n INT, KEY (k), UNIQUE (n), CHECK (k < n)"} {
		x := made(t, s, "")
		met := map[api.Errno]int{}
		each([]api.Value{{}, num(1), num(2), text("a")}, 3, func(rows [][]api.Value) {
			x.Rows = rows
			want := faulty(x)
			met[want]++
			if got := rel.Check(x); got != want {
				t.Fatalf("%s of %s: %d, not %d", told(rows), s, got, want)
			}
		})
		if met[api.OK] < 3 || met[api.ErrThere] < 3 || met[api.ErrBad] < 1 {
			t.Errorf("%s: too little was met: %v", s, met)
		}
	}
}

// P7.1: the rows rise, and those of one key stand as they stood.
func TestSort(t *testing.T) {
	for _, c := range []struct{ table, rows, want string }{
		{"k INT, s TEXT, KEY (k)", "", ""},
		{"k INT, s TEXT, KEY (k)", "1, 'a'", "1, 'a'"},
		{"k INT, s TEXT, KEY (k)", "3, 'a'; 1, 'b'; 2, 'c'", "1, 'b'; 2, 'c'; 3, 'a'"},
		{"k INT, s TEXT, KEY (k)", "10, NULL; 9, NULL; -1, NULL; -10, NULL", "-10, NULL; -1, NULL; 9, NULL; 10, NULL"},
		{"k INT, s TEXT, KEY (k)", "2, 'z'; 1, 'z'; 2, 'a'; 1, 'a'; 2, 'm'; 1, 'm'", "1, 'z'; 1, 'a'; 1, 'm'; 2, 'z'; 2, 'a'; 2, 'm'"},
		{"s TEXT, k INT, KEY (k)", "'a', 3; 'b', 1; 'c', 2", "'b', 1; 'c', 2; 'a', 3"},
		{"s TEXT, k INT, KEY (s)", "'b', 1; 'ab', 2; 'B', 3; '', 4; 'a', 5", "'', 4; 'B', 3; 'a', 5; 'ab', 2; 'b', 1"},
		{"b BOOL, KEY (b)", "TRUE; FALSE; TRUE", "FALSE; TRUE; TRUE"},
		// Rows need not fit: a row that is too short has the key NULL.
		{"k INT, s TEXT, KEY (k)", "FALSE; 'b'; 2, 3, 4; NULL; 'a', 5; -1; NULL, 6", "NULL; NULL, 6; -1; 2, 3, 4; 'a', 5; 'b'; FALSE"},
		{"s TEXT, k INT, KEY (k)", "'b', 2; 'y'; 'a', 1; 'x'; 'c', NULL; 'd', 0, 5", "'y'; 'x'; 'c', NULL; 'd', 0, 5; 'a', 1; 'b', 2"},
	} {
		x := made(t, c.table, c.rows)
		if got := told(rel.Sort(x).Rows); got != c.want {
			t.Errorf("%s of %s: %s", c.rows, c.table, got)
		}
	}
	if got := rel.Sort(api.Rel{}); !rel.Same(got, api.Rel{}) {
		t.Errorf("nothing, sorted: %v", got)
	}
}

// P7.1: rows of one key stand as they stood, however many they are.
func TestSortStable(t *testing.T) {
	x := made(t, "k INT, n INT, KEY (k)", "")
	for _, keys := range []int64{1, 2, 3, 7} {
		x.Rows = nil
		for i := range int64(api.MaxRows) {
			x.Rows = append(x.Rows, []api.Value{num(i * i % keys), num(i)})
		}
		got := rel.Sort(x).Rows
		for i, row := range got[1:] {
			if a, b := got[i], row; a[0].I > b[0].I || a[0] == b[0] && a[1].I > b[1].I {
				t.Errorf("%d keys: %s is ahead of %s", keys, told(got[i:i+1]), told(got[i+1:i+2]))
			}
		}
	}
}

// P7.1: tables and values that may not be.
func TestSortStrange(t *testing.T) {
	for i, x := range append(noTables(t), api.Table{}) {
		l := api.Rel{T: x, Rows: rows(t, "3, 'a'; 1; 2, 'b'; 1, 'c'")}
		if got := rel.Sort(l); !rel.Same(got, l) {
			t.Errorf("rows of table %d: %s", i, told(got.Rows))
		}
	}
	for _, place := range far() {
		x := full(t)
		x.T.Key = place
		slices.Reverse(x.Rows)
		if got := rel.Sort(x); !rel.Same(got, x) {
			t.Errorf("rows with the key in %d: %s", place, told(got.Rows))
		}
	}
	// A key that may not be counts as NULL.
	for _, v := range strange() {
		x := full(t)
		x.Rows = [][]api.Value{{num(1), {}}, {v, text("a")}, {num(-5), {}}, {{}, text("b")}, {v, text("c")}}
		want := api.Rel{T: x.T, Rows: [][]api.Value{x.Rows[1], x.Rows[3], x.Rows[4], x.Rows[2], x.Rows[0]}}
		if got := rel.Sort(x); !rel.Same(got, want) {
			t.Errorf("rows with %v: %v", v, got.Rows)
		}
	}
}

// P7.1, P7.4: all short lists of rows: what is sorted rises, and has the same rows of each key in the same order.
func TestSortAll(t *testing.T) {
	l := []api.Value{{}, num(1), num(2), text("a")}
	for key := range 2 {
		x := full(t)
		x.T = table(t, []string{"k INT, n INT, KEY (k)", "n INT, k INT, KEY (k)"}[key])
		each(l, 3, func(rows [][]api.Value) {
			x.Rows = rows
			got := rel.Sort(x)
			if !schema.Same(got.T, x.T) || !slices.IsSortedFunc(got.Rows, func(a, b []api.Value) int { return value.Order(a[key], b[key]) }) {
				t.Fatalf("%s: %s", told(rows), told(got.Rows))
			}
			for _, v := range l {
				other := func(row []api.Value) bool { return row[key] != v }
				if a, b := told(slices.DeleteFunc(slices.Clone(rows), other)), told(slices.DeleteFunc(slices.Clone(got.Rows), other)); a != b {
					t.Fatalf("%s: %s", told(rows), told(got.Rows))
				}
			}
			if e := rel.Check(x); (e == api.OK || e == api.ErrBad) != (rel.Check(got) == api.OK) {
				t.Fatalf("%s: %d, sorted %d", told(rows), e, rel.Check(got))
			}
		})
	}
}
