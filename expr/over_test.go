package expr_test

import (
	"slices"
	"testing"

	"caddis/api"
	"caddis/expr"
	"caddis/value"
)

// columns are those over which most of what is asked here is told: one of each type, and a second one of the name a.
func columns() []api.Column {
	return []api.Column{{Name: "a", Type: api.Int}, {Name: "s", Type: api.Text}, {Name: "b", Type: api.Bool, NotNull: true}, {Name: "a", Type: api.Text}, {Name: "n", Type: api.Null}}
}

// typed has an expression of each type over the columns, of NULL's too, as a lit and as a col.
func typed() [4][]api.Expr {
	return [4][]api.Expr{
		{lit(api.Value{}), col("n")},
		{lit(num(5)), col("a"), op("+", col("a"), lit(num(1))), op("-", lit(api.Value{}), col("n"))},
		{lit(text("")), col("s")},
		{lit(truth(0)), col("b"), op("null", col("s")), op("=", col("a"), lit(num(1))), op("not", col("n"))},
	}
}

// P4.2: each Op, of parts of each type.
func TestType(t *testing.T) {
	of := typed()
	for k, l := range of {
		for _, e := range l {
			if got, err := expr.Type(e, columns()); got != k || err != api.OK {
				t.Errorf("Type(%s): %d, %d, want %d", told(e), got, err, k)
			}
			wantType(t, op("null", e), api.Bool, true)
			wantType(t, op("not", e), api.Bool, k == api.Bool || k == api.Null)
		}
	}
	for k, l := range of {
		for j, m := range of {
			for _, a := range l {
				for _, b := range m {
					for _, s := range []string{"=", "<"} {
						wantType(t, op(s, a, b), api.Bool, k == j || k == api.Null || j == api.Null)
					}
					for _, s := range []string{"and", "or"} {
						wantType(t, op(s, a, b), api.Bool, (k == api.Bool || k == api.Null) && (j == api.Bool || j == api.Null))
					}
					for _, s := range []string{"+", "-"} {
						wantType(t, op(s, a, b), api.Int, (k == api.Int || k == api.Null) && (j == api.Int || j == api.Null))
					}
				}
			}
		}
	}
}

// wantType tells what is wrong with an expression's type over the columns: it is to be the type told, or none that goes.
func wantType(t *testing.T, e api.Expr, want int, goes bool) {
	t.Helper()
	wrong := api.OK
	if !goes {
		want, wrong = 0, api.ErrType
	}
	if got, err := expr.Type(e, columns()); got != want || err != wrong {
		t.Errorf("Type(%s): %d, %d, want %d, %d", told(e), got, err, want, wrong)
	}
}

// P4.2: which error is the first one.
func TestTypeWrong(t *testing.T) {
	none, off := col("x"), op("+", lit(num(1)), lit(truth(1)))
	for _, c := range []struct {
		e    api.Expr
		want api.Errno
	}{
		{none, api.ErrName}, {off, api.ErrType}, {op("not", none), api.ErrName}, {op("null", none), api.ErrName}, {op("null", off), api.ErrType}, {col("A"), api.ErrName}, {col("aa"), api.ErrName},
		{op("=", none, off), api.ErrName}, {op("=", off, none), api.ErrType}, {op("and", off, none), api.ErrType}, {op("and", none, off), api.ErrName},
		{op("+", lit(text("a")), none), api.ErrName}, {op("+", none, lit(text("a"))), api.ErrName}, {op("and", lit(num(1)), none), api.ErrName}, {op("=", op("not", lit(num(1))), none), api.ErrType}, {op("=", op("null", none), off), api.ErrName},
		{op("or", op("or", lit(truth(1)), off), none), api.ErrType}, {op("or", op("or", lit(truth(1)), none), off), api.ErrName}, {op("or", lit(num(1)), op("or", lit(truth(1)), none)), api.ErrName},
		{op("+", col("a"), lit(truth(1))), api.ErrType}, {op("=", lit(num(1)), lit(text("1"))), api.ErrType}, {op("<", col("b"), col("a")), api.ErrType}, {op("not", lit(text("a"))), api.ErrType},
		{op("+", none, api.Expr{}), api.ErrArg}, {op("=", off, col("1a")), api.ErrArg}, {op("=", none, op("not")), api.ErrArg}, {op("+", deep("+", 12, 0), none), api.ErrArg},
	} {
		if got, err := expr.Type(c.e, columns()); got != 0 || err != c.want {
			t.Errorf("Type(%s): %d, %d, want %d", told(c.e), got, err, c.want)
		}
	}
	for _, e := range bad() {
		for _, cols := range [][]api.Column{nil, columns()} {
			if got, err := expr.Type(e, cols); got != 0 || err != api.ErrArg {
				t.Errorf("Type(%s): %d, %d", told(e), got, err)
			}
		}
	}
}

// P4.2: of columns that are none, many, or of no type that there is.
func TestTypeColumns(t *testing.T) {
	if got, err := expr.Type(col("a"), nil); got != 0 || err != api.ErrName {
		t.Errorf("Type of a col over nothing: %d, %d", got, err)
	}
	if got, err := expr.Type(op("=", lit(num(1)), lit(num(2))), nil); got != api.Bool || err != api.OK {
		t.Errorf("Type of lits over nothing: %d, %d", got, err)
	}
	if got, err := expr.Type(col("a"), []api.Column{{Name: "b", Type: 1}, {Name: "a", Type: 2}, {Name: "a", Type: 3}}); got != 2 || err != api.OK {
		t.Errorf("Type of the first of two: %d, %d", got, err)
	}
	for _, k := range []int{4, -1, most, least} {
		cols := []api.Column{{Name: "x", Type: k}, {Name: "y", Type: k}, {Name: "i", Type: api.Int}}
		for _, c := range []struct {
			e    api.Expr
			want int
			err  api.Errno
		}{
			{col("x"), k, api.OK}, {op("=", col("x"), col("y")), api.Bool, api.OK}, {op("<", col("x"), lit(api.Value{})), api.Bool, api.OK}, {op("null", col("x")), api.Bool, api.OK},
			{op("=", col("x"), col("i")), 0, api.ErrType}, {op("+", col("x"), col("y")), 0, api.ErrType}, {op("not", col("x")), 0, api.ErrType}, {op("and", col("x"), col("y")), 0, api.ErrType},
		} {
			if got, err := expr.Type(c.e, cols); got != c.want || err != c.err {
				t.Errorf("Type(%s) over the type %d: %d, %d", told(c.e), k, got, err)
			}
		}
	}
}

// P4.2: each Op does what layer 1 says, of values that stand there and of those of columns.
func TestEval(t *testing.T) {
	twos := map[string]func(a, b api.Value) api.Value{"and": value.And, "or": value.Or, "=": value.Equal, "<": value.Less, "+": value.Plus, "-": value.Minus}
	ones := map[string]func(a api.Value) api.Value{"not": value.Not, "null": value.IsNull}
	cols := []api.Column{{Name: "a"}, {Name: "b"}}
	for _, a := range append(values(), api.Value{Kind: 9}, api.Value{Kind: api.Bool, I: 7}, text("\n")) {
		for _, b := range values() {
			row := []api.Value{a, b}
			for s, f := range twos {
				wantValue(t, op(s, col("a"), lit(b)), cols, row, f(a, b))
				wantValue(t, op(s, col("a"), col("b")), cols, row, f(a, b))
				wantValue(t, op(s, col("b"), col("a")), cols, row, f(b, a))
			}
		}
		for s, f := range ones {
			wantValue(t, op(s, col("a")), cols, []api.Value{a}, f(a))
		}
		wantValue(t, col("a"), cols, []api.Value{a}, a)
	}
	for _, v := range values() {
		wantValue(t, lit(v), nil, nil, v)
	}
}

// wantValue tells what is wrong with an expression's value, and what was changed.
func wantValue(t *testing.T, e api.Expr, cols []api.Column, row []api.Value, want api.Value) {
	t.Helper()
	f, c, r := clone(e), slices.Clone(cols), slices.Clone(row)
	if got := expr.Eval(e, cols, row); got != want {
		t.Errorf("Eval(%s) over %v, %v: %v, want %v", told(e), cols, row, got, want)
	}
	if !expr.Same(e, f) || !slices.Equal(c, cols) || !slices.Equal(r, row) {
		t.Errorf("Eval(%s) over %v, %v changed them", told(f), c, r)
	}
}

// P4.2: parts in one another.
func TestEvalParts(t *testing.T) {
	row := []api.Value{num(3), text("x"), truth(1), text("no"), {}}
	a, s, b, n := col("a"), col("s"), col("b"), col("n")
	for _, c := range []struct {
		e    api.Expr
		want api.Value
	}{
		{op("-", op("-", a, lit(num(1))), lit(num(5))), num(-3)}, {op("-", a, op("-", lit(num(1)), lit(num(5)))), num(7)},
		{op("or", op("=", a, lit(num(1))), op("null", n)), truth(1)}, {op("and", op("<", a, lit(num(4))), op("=", s, lit(text("x")))), truth(1)}, {op("and", op("<", lit(num(4)), a), b), truth(0)},
		{op("not", op("and", b, n)), api.Value{}}, {op("not", op("or", b, n)), truth(0)}, {op("null", op("+", a, n)), truth(1)}, {op("null", op("=", s, n)), truth(1)}, {op("null", op("not", b)), truth(0)},
		{op("=", op("<", a, lit(num(9))), b), truth(1)}, {op("+", a, s), api.Value{}}, {op("not", a), api.Value{}}, {op("=", a, s), api.Value{}}, {op("and", a, lit(truth(0))), truth(0)},
		{op("+", op("+", lit(num(most)), lit(num(1))), lit(num(-1))), api.Value{}}, {op("+", lit(num(most)), op("+", lit(num(1)), lit(num(-1)))), num(most)},
		{deep("+", 12, 0), num(36)}, {deep("-", 12, 1), api.Value{Kind: api.Int}}, {wide(60), api.Value{}},
	} {
		wantValue(t, c.e, columns(), row, c.want)
	}
	wantValue(t, op("+", a, lit(num(1))), columns(), []api.Value{num(most)}, api.Value{})
}

// P4.2: a col that there is not, a row that is too short, a name that is there twice.
func TestEvalColumns(t *testing.T) {
	row := []api.Value{num(1), text("x"), truth(1), text("y"), num(7), num(8)}
	for n := range len(row) + 1 {
		for i, c := range []string{"a", "s", "b"} {
			want := api.Value{}
			if i < n {
				want = row[i]
			}
			wantValue(t, col(c), columns(), row[:n], want)
			wantValue(t, op("null", col(c)), columns(), row[:n], value.IsNull(want))
		}
		for _, c := range []string{"x", "A", "aa"} {
			wantValue(t, col(c), columns(), row[:n], api.Value{})
		}
	}
	wantValue(t, col("a"), nil, row, api.Value{})
	wantValue(t, op("null", col("x")), columns(), row, truth(1))
	wantValue(t, op("or", col("x"), lit(truth(1))), columns(), row, truth(1))
	// What lies behind a row's end is none of it.
	wantValue(t, col("s"), columns(), row[:1:4], api.Value{})
}

// P4.2: NULL, if it may not be, however it begins.
func TestEvalWrong(t *testing.T) {
	for _, e := range append(bad(), op("and", lit(truth(0)), api.Expr{}), op("null", op("+", lit(num(1)), col("1a"))), op("or", lit(truth(1)), deep("or", 12, 0))) {
		wantValue(t, e, columns(), []api.Value{num(1)}, api.Value{})
	}
}

// P4.4: what has a type has, over a row of the columns' types, a value of it, or NULL.
func TestTypeOfValue(t *testing.T) {
	cols := columns()[:3]
	var rows [][]api.Value
	for _, a := range []api.Value{{}, num(most), num(0)} {
		for _, s := range []api.Value{{}, text("a")} {
			for _, b := range []api.Value{{}, truth(0), truth(1)} {
				rows = append(rows, []api.Value{a, s, b})
			}
		}
	}
	went := 0
	for _, e := range small(col("a"), col("s"), col("b"), lit(num(1)), lit(api.Value{}), lit(truth(1))) {
		k, err := expr.Type(e, cols)
		if err != api.OK {
			continue
		}
		went++
		for _, row := range rows {
			if v := expr.Eval(e, cols, row); !value.May(v) || v.Kind != k && v.Kind != api.Null {
				t.Errorf("Eval(%s) over %v: %v, of the type %d", told(e), row, v, k)
			}
		}
	}
	if went < 1000 {
		t.Errorf("only %d have a type", went)
	}
}

// small has all expressions of depth at most 3 of these atoms, but of two parts that are both 2 deep some only.
func small(atoms ...api.Expr) []api.Expr {
	two := atoms
	for _, a := range atoms {
		for _, s := range unary() {
			two = append(two, op(s, a))
		}
		for _, s := range binary() {
			for _, b := range atoms {
				two = append(two, op(s, a, b))
			}
		}
	}
	three := two
	for i, a := range two {
		for _, s := range unary() {
			three = append(three, op(s, a))
		}
		for _, s := range binary() {
			for _, b := range atoms {
				three = append(three, op(s, a, b), op(s, b, a))
			}
			three = append(three, op(s, a, two[(7*i+3)%len(two)]))
		}
	}
	return three
}
