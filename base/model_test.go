package base_test

import (
	"math/rand"
	"slices"
	"strconv"
	"strings"
	"testing"

	"caddis/api"
	"caddis/expr"
	"caddis/rel"
	"caddis/schema"
	"caddis/stmt"
	"caddis/value"
)

// model is tables with rows by their names: what a base is, told another way.
type model map[string]api.Rel

// list is a model's tables, rising by their names.
func (m model) list() []api.Rel {
	var names []string
	for s := range m {
		names = append(names, s)
	}
	slices.Sort(names)
	var l []api.Rel
	for _, s := range names {
		l = append(l, m[s])
	}
	return l
}

// with is a model with a table of these rows.
func (m model) with(x api.Table, rows [][]api.Value) model {
	l := model{x.Name: {T: x, Rows: rows}}
	for s, y := range m {
		if s != x.Name {
			l[s] = y
		}
	}
	return l
}

// without is a model without a table.
func (m model) without(name string) model {
	l := m.with(api.Table{Name: name}, nil)
	delete(l, name)
	return l
}

// loose: does some row, or some table, refer to what there is not?
func (m model) loose() bool {
	for _, x := range m {
		for _, f := range x.T.Refs {
			there, ok := m[f.Table]
			if !ok {
				return true
			}
			for _, row := range x.Rows {
				met := row[f.Col] == api.Value{}
				for _, other := range there.Rows {
					met = met || value.Equal(other[there.T.Key], row[f.Col]) == api.Value{Kind: api.Bool, I: 1}
				}
				if !met {
					return true
				}
			}
		}
	}
	return false
}

// sorted is a table's rows, rising, laid one by one.
func sorted(x api.Table, l [][]api.Value) [][]api.Value {
	var out [][]api.Value
	for _, row := range l {
		i := len(out)
		for i > 0 && value.Order(out[i-1][x.Key], schema.Key(x, row)) > 0 {
			i--
		}
		out = slices.Insert(out, i, row)
	}
	return out
}

// laid is a model, and an error, behind one of its tables has these rows.
func (m model) laid(x api.Table, rows [][]api.Value) (model, api.Errno) {
	if slices.ContainsFunc(rows, func(row []api.Value) bool { return len(row) != len(x.Cols) }) {
		if len(rows) > api.MaxRows {
			return m, api.ErrFull
		}
		return m, api.ErrArg
	}
	l := m.with(x, sorted(x, rows))
	if e := rel.Check(l[x.Name]); e != api.OK {
		return m, e
	}
	if l.loose() {
		return m, api.ErrRef
	}
	return l, api.OK
}

// typed is what is wrong with an expression over columns that is to be of a type.
func typed(e api.Expr, cols []api.Column, kind int) api.Errno {
	got, err := expr.Type(e, cols)
	if err == api.OK && got != kind && got != api.Null {
		return api.ErrType
	}
	return err
}

// do is what the chapter says of a statement that may be.
func (m model) do(s api.Stmt) (model, api.Answer) {
	x, ok := m[s.Table]
	if s.Op == "create" {
		return m.create(s)
	}
	if !ok {
		return m, api.Answer{E: api.ErrNone}
	}
	switch s.Op {
	case "drop":
		if l := m.without(s.Table); !l.loose() {
			return l, api.Answer{N: 1}
		}
		return m, api.Answer{E: api.ErrRef}
	case "insert":
		l, e := m.laid(x.T, append([][]api.Value{s.Row}, x.Rows...))
		if e != api.OK {
			return m, api.Answer{E: e}
		}
		return l, api.Answer{N: 1}
	}
	return m.each(x, s)
}

// create is what the chapter says of a create.
func (m model) create(s api.Stmt) (model, api.Answer) {
	x, e := schema.Of(s)
	_, there := m[s.Table]
	switch {
	case e != api.OK:
		return m, api.Answer{E: e}
	case there:
		return m, api.Answer{E: api.ErrThere}
	case len(m) == api.MaxTables:
		return m, api.Answer{E: api.ErrFull}
	}
	if l := m.with(x, nil); !l.loose() {
		return l, api.Answer{N: 1}
	}
	return m, api.Answer{E: api.ErrRef}
}

// each is what the chapter says of an update, a delete, a select, that go row by row.
func (m model) each(x api.Rel, s api.Stmt) (model, api.Answer) {
	met := map[string]int{}
	for _, set := range s.Sets {
		at := schema.Place(x.T, set.Name)
		if at < 0 {
			return m, api.Answer{E: api.ErrName}
		}
		if met[set.Name]++; met[set.Name] > 1 {
			return m, api.Answer{E: api.ErrThere}
		}
		if e := typed(set.E, x.T.Cols, x.T.Cols[at].Type); e != api.OK {
			return m, api.Answer{E: e}
		}
	}
	if s.Where.Op == "" {
		s.Where = api.Expr{Op: "lit", V: api.Value{Kind: api.Bool, I: 1}}
	}
	if e := typed(s.Where, x.T.Cols, api.Bool); e != api.OK {
		return m, api.Answer{E: e}
	}
	var hit, then [][]api.Value
	for _, row := range x.Rows {
		if v := expr.Eval(s.Where, x.T.Cols, row); v.Kind != api.Bool || v.I == 0 {
			then = append(then, row)
			continue
		}
		hit = append(hit, row)
		if s.Op == "update" {
			next := slices.Clone(row)
			for i, c := range x.T.Cols {
				for _, set := range s.Sets {
					if set.Name == c.Name {
						next[i] = expr.Eval(set.E, x.T.Cols, row)
					}
				}
			}
			then = append(then, next)
		}
	}
	if s.Op == "select" {
		return m, api.Answer{N: len(hit), Rows: hit}
	}
	l, e := m.laid(x.T, then)
	if e != api.OK {
		return m, api.Answer{E: e}
	}
	return l, api.Answer{N: len(hit)}
}

// maker makes statements by chance.
type maker struct{ *rand.Rand }

// one is one of some words.
func (r maker) one(words string) string {
	l := strings.Split(words, "|")
	return l[r.Intn(len(l))]
}

// value is a value's text: mostly one that goes where a number does.
func (r maker) value() string {
	if r.Intn(12) > 0 {
		return strconv.Itoa(r.Intn(6))
	}
	return r.one("NULL|NULL|NULL|'a'|TRUE|-1|9223372036854775807")
}

// where is perhaps a condition.
func (r maker) where() string {
	if r.Intn(4) == 0 {
		return ""
	}
	c := func() string { return r.one("k|n|r") + " " + r.one("=|<") + " " + r.one("k|n|r|") }
	s := c()
	if strings.HasSuffix(s, " ") {
		s += r.value()
	}
	switch r.Intn(12) {
	case 0, 1:
		s = "NOT " + s
	case 2:
		s += " OR n IS NULL"
	case 3:
		s = r.one("k IS NULL|r IS NULL|TRUE|NULL|k|z = 1|r = z|n + 1")
	}
	return " WHERE " + s
}

// statement is a statement's text.
func (r maker) statement() string {
	t := r.one("a|b|c|d")
	switch r.Intn(20) {
	case 0, 1, 2:
		s := "CREATE TABLE " + t + " (k INT, n " + r.one("INT|INT|INT|INT NOT NULL|TEXT|BOOL") + ", r INT, KEY (" + r.one("k|k|k|k|n|r|z") + ")" + r.one("||, UNIQUE (n)|, UNIQUE (r)")
		for range r.Intn(3) {
			s += ", REFERENCES (" + r.one("r|r|r|n|k|z") + ") " + r.one("a|b|c|d")
		}
		return s + r.one("|||, CHECK (k < 4)|, CHECK (NOT k = r)|, CHECK (n < 3)|, CHECK (n)") + ")"
	case 3:
		return "DROP TABLE " + t
	case 4, 5, 6, 7, 8, 9, 10, 11, 12:
		return "INSERT INTO " + t + " VALUES (" + r.value() + ", " + r.value() + r.one("|, NULL|, NULL|, NULL") + r.one("|, 1|, 2|, 3|, 4") + ")"
	case 13, 14, 15, 16:
		var l []string
		for range 1 + r.Intn(3) {
			l = append(l, r.one("k|n|r|r|n|k|z")+" = "+r.one("k|n|r|k + 1|5 - k|n + 1|r - k|NULL|1|'a'|z"))
		}
		return "UPDATE " + t + " SET " + strings.Join(l, ", ") + r.where()
	case 17, 18:
		return "DELETE FROM " + t + r.where()
	}
	return "SELECT * FROM " + t + r.where()
}

// P8.2, P8.3: long walks, held step by step against the model.
func TestWalks(t *testing.T) {
	met := map[string]int{}
	for seed := range int64(100) {
		r := maker{rand.New(rand.NewSource(seed))}
		m, db := model{}, []api.Rel(nil)
		for range 500 {
			text := r.statement()
			s := parsed(t, text)
			before := shown(db)
			var want, got api.Answer
			m, want = m.do(s)
			db, got = done(t, db, s)
			if got.E != want.E || got.N != want.N || told(got.Rows) != told(want.Rows) || !same(db, m.list()) {
				t.Fatalf("seed %d, %s of %s: %v, %s, not %v, %s", seed, text, before, got, shown(db), want, shown(m.list()))
			}
			what := s.Op
			if got.E == api.OK && got.N == 0 {
				what += ", none"
			}
			met[what+" "+strconv.Itoa(int(got.E))]++
		}
	}
	for op, errors := range map[string][]api.Errno{
		"create": {api.OK, api.ErrThere, api.ErrName, api.ErrType, api.ErrRef},
		"drop":   {api.OK, api.ErrNone, api.ErrRef},
		"insert": {api.OK, api.ErrNone, api.ErrArg, api.ErrNull, api.ErrType, api.ErrCheck, api.ErrThere, api.ErrRef},
		"update": {api.OK, api.ErrNone, api.ErrName, api.ErrThere, api.ErrType, api.ErrNull, api.ErrCheck, api.ErrRef},
		"delete": {api.OK, api.ErrNone, api.ErrName, api.ErrType, api.ErrRef},
		"select": {api.OK, api.ErrNone, api.ErrName, api.ErrType},
	} {
		for _, e := range errors {
			if n := met[op+" "+strconv.Itoa(int(e))]; n < 5 {
				t.Errorf("%s, error %d, was met %d times", op, e, n)
			}
		}
	}
}

// P8.2: of one small base, all updates, deletes and selects of few parts.
func TestAll(t *testing.T) {
	const tab = "t (k INT, n INT, s TEXT, KEY (k), UNIQUE (n), REFERENCES (n) t, CHECK (k < 6))"
	parts := strings.Split("k|n|s|z|NULL|1|3|'a'|k + 1|4 - k|n + 1|n - n|k < 2|s IS NULL", "|")
	where := strings.Split("|k|s|z|NULL|TRUE|k < 2|NOT k < 2|n IS NULL|n = k|k = 9|NOT k", "|")
	for _, r := range []string{"", "1, 1, 'a'; 2, NULL, NULL; 3, 2, 'b'"} {
		db := made(t, tab, r)
		m := model{"t": db[0]}
		hold := func(s string) {
			x, e := stmt.Parse(s)
			if e != api.OK {
				t.Fatalf("%s is no statement", s)
			}
			after, want := m.do(x)
			then, got := done(t, db, x)
			if got.E != want.E || got.N != want.N || told(got.Rows) != told(want.Rows) || !same(then, after.list()) {
				t.Fatalf("%s of %s: %v, %s, not %v, %s", s, r, got, shown(then), want, shown(after.list()))
			}
		}
		for _, w := range where {
			if w != "" {
				w = " WHERE " + w
			}
			hold("DELETE FROM t" + w)
			hold("SELECT * FROM t" + w)
			for _, a := range strings.Split("k|n|s|z", "|") {
				for _, p := range parts {
					hold("UPDATE t SET " + a + " = " + p + w)
					for _, b := range strings.Split("k|n|s|z", "|") {
						for _, q := range parts {
							hold("UPDATE t SET " + a + " = " + p + ", " + b + " = " + q + w)
						}
					}
				}
			}
		}
	}
}
