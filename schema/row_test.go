package schema_test

import (
	"math"
	"slices"
	"strings"
	"testing"

	"caddis/api"
	"caddis/schema"
)

// values are values of each kind, and some that may not be.
func values() (may, mayNot []api.Value) {
	may = []api.Value{{}, num(0), num(4), num(5), num(-1), num(math.MinInt64), num(math.MaxInt64), text(""), text("a"), text(strings.Repeat("z", api.MaxText)), truth(0), truth(1)}
	mayNot = []api.Value{{Kind: 4}, {Kind: -1}, {I: 1}, {S: "a"}, {Kind: api.Int, S: "a"}, {Kind: api.Text, I: 1}, text(strings.Repeat("z", api.MaxText+1)), text("\n"), text("\x7f"), truth(2), truth(-1), {Kind: api.Bool, S: "a"}}
	return may, mayNot
}

// wrong is what the chapter says is wrong with values that may be in columns, but for the check.
func wrong(l []api.Column, row []api.Value) api.Errno {
	for i, c := range l {
		if row[i].Kind == 0 && c.NotNull {
			return api.ErrNull
		}
		if row[i].Kind != 0 && row[i].Kind != c.Type {
			return api.ErrType
		}
	}
	return api.OK
}

// P6.3: column by column, each type against each value, ahead of the check.
func TestFitsColumns(t *testing.T) {
	may, _ := values()
	for types := range 9 {
		for bits := range 4 {
			x := api.Table{Name: "t", Key: 1, Cols: []api.Column{{Name: "a", Type: types%3 + 1, NotNull: bits&1 == 1}, {Name: "b", Type: types/3 + 1, NotNull: true}, {Name: "c", Type: api.Int, NotNull: bits&2 == 2}}}
			for _, a := range may {
				for _, b := range may {
					for _, c := range []api.Value{{}, num(3), text("c")} {
						row := []api.Value{a, b, c}
						x.Check = api.Expr{}
						want := wrong(x.Cols, row)
						if got := schema.Fits(x, row); got != want {
							t.Fatalf("%v in %v: %d, not %d", row, x.Cols, got, want)
						}
						x.Check = lit(truth(0))
						if want == api.OK {
							want = api.ErrCheck
						}
						if got := schema.Fits(x, row); got != want {
							t.Fatalf("%v in %v with a check that is FALSE: %d, not %d", row, x.Cols, got, want)
						}
					}
				}
			}
		}
	}
}

// P6.3: the check, of each value.
func TestFitsCheck(t *testing.T) {
	for _, c := range []struct {
		check api.Expr
		row   []api.Value
		want  api.Errno
	}{
		{op("<", col("k"), lit(num(5))), []api.Value{num(4), {}, {}}, api.OK},
		{op("<", col("k"), lit(num(5))), []api.Value{num(5), {}, {}}, api.ErrCheck},
		{op("<", col("k"), lit(num(5))), []api.Value{num(6), {}, {}}, api.ErrCheck},
		{col("f"), []api.Value{num(1), {}, truth(1)}, api.OK},
		{col("f"), []api.Value{num(1), {}, truth(0)}, api.ErrCheck},
		{col("f"), []api.Value{num(1), {}, {}}, api.OK},
		{op("not", col("f")), []api.Value{num(1), {}, truth(1)}, api.ErrCheck},
		{op("not", col("f")), []api.Value{num(1), {}, {}}, api.OK},
		{op("=", col("s"), lit(text("a"))), []api.Value{num(1), text("a"), {}}, api.OK},
		{op("=", col("s"), lit(text("a"))), []api.Value{num(1), text("b"), {}}, api.ErrCheck},
		{op("=", col("s"), lit(text("a"))), []api.Value{num(1), {}, {}}, api.OK},
		{op("null", col("s")), []api.Value{num(1), text(""), {}}, api.ErrCheck},
		{op("<", lit(num(0)), op("+", col("k"), lit(num(1)))), []api.Value{num(math.MaxInt64), {}, {}}, api.OK},
		{op("<", lit(num(0)), op("+", col("k"), lit(num(1)))), []api.Value{num(-1), {}, {}}, api.ErrCheck},
		{lit(truth(0)), []api.Value{num(1), {}, {}}, api.ErrCheck},
		{lit(truth(1)), []api.Value{num(1), {}, {}}, api.OK},
		{lit(api.Value{}), []api.Value{num(1), {}, {}}, api.OK},
		{api.Expr{}, []api.Value{num(1), {}, {}}, api.OK},
	} {
		x := with(func(x *api.Table) { x.Check = c.check })
		if got := schema.Fits(x, c.row); got != c.want {
			t.Errorf("check %v over %v: %d, not %d", c.check, c.row, got, c.want)
		}
	}
}

// P6.3: ErrArg ahead of all: of values that may not be, wherever they stand, and whatever stands ahead of them.
func TestFitsValues(t *testing.T) {
	_, mayNot := values()
	x := with(func(x *api.Table) { x.Check = lit(truth(0)) })
	for _, v := range mayNot {
		for i := range 3 {
			for _, row := range [][]api.Value{{num(1), {}, {}}, {{}, {}, {}}, {text("a"), num(1), num(1)}} {
				row[i] = v
				if got := schema.Fits(x, row); got != api.ErrArg {
					t.Errorf("%v: %d", row, got)
				}
			}
		}
	}
}

// P6.3: ErrArg of rows that are too short, or too long.
func TestFitsLength(t *testing.T) {
	for n := 1; n <= api.MaxCols; n++ {
		x := api.Table{Name: "t"}
		for i := range n {
			x.Cols = append(x.Cols, api.Column{Name: string(rune('a' + i)), Type: api.Int, NotNull: true})
		}
		for length := range 20 {
			want := api.ErrArg
			if length == n {
				want = api.OK
			}
			if got := schema.Fits(x, slices.Repeat([]api.Value{num(1)}, length)); got != want {
				t.Errorf("%d values in %d columns: %d", length, n, got)
			}
		}
		if got := schema.Fits(x, nil); got != api.ErrArg {
			t.Errorf("no values in %d columns: %d", n, got)
		}
	}
}

// P6.3: of tables that may not be ErrArg, and NULL.
func TestNoTable(t *testing.T) {
	row := []api.Value{num(1), text("a"), truth(1)}
	l := append(tables(), with(func(x *api.Table) { x.Check = shared() }), with(func(x *api.Table) { x.Check = cyclic() }))
	for _, place := range append(far(), 3) {
		l = append(l, with(func(x *api.Table) { x.Key = place }), with(func(x *api.Table) { x.Uniques[1] = place }), with(func(x *api.Table) { x.Refs[1].Col = place }))
	}
	count := 0
	for i, x := range l {
		if schema.May(x) {
			continue
		}
		count++
		if e := schema.Fits(x, row); e != api.ErrArg {
			t.Errorf("Fits of table %d: %d", i, e)
		}
		if e := schema.Fits(x, nil); e != api.ErrArg {
			t.Errorf("Fits of table %d, no row: %d", i, e)
		}
		if v := schema.Key(x, row); v != (api.Value{}) {
			t.Errorf("Key of table %d: %v", i, v)
		}
	}
	if count < 40 {
		t.Errorf("only %d tables may not be", count)
	}
}

// P6.3: the value in the key's place, of rows of each length.
func TestKey(t *testing.T) {
	may, mayNot := values()
	row := slices.Concat(may, mayNot)
	for n := 1; n <= api.MaxCols; n++ {
		for key := range n {
			x := cols(n)
			x.Key = key
			for length := range len(row) {
				for from := range len(row) - length {
					want := api.Value{}
					if length > key {
						want = row[from+key]
					}
					if got := schema.Key(x, row[from:from+length]); got != want {
						t.Fatalf("key %d of %v: %v", key, row[from:from+length], got)
					}
				}
			}
			if got := schema.Key(x, nil); got != (api.Value{}) {
				t.Errorf("key of no row: %v", got)
			}
		}
	}
}
