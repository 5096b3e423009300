package base_test

import (
	"slices"
	"testing"

	"caddis/api"
	"caddis/base"
)

// P8.1: none, MaxTables, and more.
func TestCheckTables(t *testing.T) {
	for n := range 40 {
		want := api.OK
		if n > api.MaxTables {
			want = api.ErrFull
		}
		if got := base.Check(letters(n)); got != want {
			t.Errorf("%d tables: %d, not %d", n, got, want)
		}
	}
	if got := base.Check([]api.Rel{}); got != api.OK {
		t.Errorf("no tables: %d", got)
	}
}

// P8.1: names rise, octet by octet, none twice.
func TestCheckNames(t *testing.T) {
	all := []string{"A", "Z", "Za", "a", "a1", "a12", "a2", "aA", "a_", "aa", "b", "k", "t", "z"}
	for i, a := range all {
		for j, b := range all {
			want := api.OK
			if i >= j {
				want = api.ErrBad
			}
			if got := base.Check(named(a, b)); got != want {
				t.Errorf("%s, %s: %d, not %d", a, b, got, want)
			}
			// Wherever two tables stand that do not rise.
			for k, c := range all {
				want := api.OK
				if i >= j || j >= k {
					want = api.ErrBad
				}
				if got := base.Check(named(a, b, c)); got != want {
					t.Errorf("%s, %s, %s: %d, not %d", a, b, c, got, want)
				}
			}
		}
	}
}

// P8.1: what is bound, and what is not.
func TestCheckBound(t *testing.T) {
	const tab, ref = "t (k INT, n INT, KEY (k))", "v (n INT, r INT, KEY (n), REFERENCES (r) t)"
	for _, c := range []struct {
		db   []string
		want api.Errno
	}{
		{[]string{tab, "", ref, ""}, api.OK},
		{[]string{tab, "1, 5; 2, 6", ref, ""}, api.OK},
		{[]string{tab, "1, 5; 2, 6", ref, "1, 1; 2, 2; 3, 1; 4, NULL"}, api.OK},
		{[]string{tab, "", ref, "1, NULL; 2, NULL"}, api.OK},
		{[]string{tab, "", ref, "1, 1"}, api.ErrRef},
		{[]string{tab, "1, 5; 2, 6", ref, "1, 3"}, api.ErrRef},
		{[]string{tab, "1, 5; 2, 6", ref, "1, 5"}, api.ErrRef},
		{[]string{tab, "1, 5; 2, 6", ref, "1, 1; 2, 2; 3, 3"}, api.ErrRef},
		{[]string{tab, "1, 5; 2, 6", ref, "1, 0; 2, 2"}, api.ErrRef},
		{[]string{tab, "1, 5; 2, 6", ref, "1, NULL; 2, -1"}, api.ErrRef},
		{[]string{ref, ""}, api.ErrRef},
		{[]string{ref, "1, NULL"}, api.ErrRef},
		{[]string{"T (k INT, KEY (k))", "1", ref, ""}, api.ErrRef},
		{[]string{"u (k INT, KEY (k))", "1", ref, "1, 1"}, api.ErrRef},
		// A table ahead of the one to which it refers; two that refer to each other; one that refers to itself.
		{[]string{"a (n INT, r INT, KEY (n), REFERENCES (r) t)", "1, 2", tab, "2, NULL"}, api.OK},
		{[]string{"a (n INT, r INT, KEY (n), REFERENCES (r) t)", "1, 2", tab, "1, NULL"}, api.ErrRef},
		{[]string{"a (k INT, r INT, KEY (k), REFERENCES (r) b)", "1, 2", "b (k INT, r INT, KEY (k), REFERENCES (r) a)", "2, 1"}, api.OK},
		{[]string{"a (k INT, r INT, KEY (k), REFERENCES (r) b)", "1, 2", "b (k INT, r INT, KEY (k), REFERENCES (r) a)", "2, 2"}, api.ErrRef},
		{[]string{"a (k INT, r INT, KEY (k), REFERENCES (r) b)", "1, 1", "b (k INT, r INT, KEY (k), REFERENCES (r) a)", "2, 1"}, api.ErrRef},
		{[]string{"w (k INT, r INT, KEY (k), REFERENCES (r) w)", "1, 1; 2, 3; 3, 2"}, api.OK},
		{[]string{"w (k INT, r INT, KEY (k), REFERENCES (r) w)", "1, 1; 2, 4; 3, 2"}, api.ErrRef},
		{[]string{"w (k INT, KEY (k), REFERENCES (k) w)", "1; 2"}, api.OK},
		// The key that refers; the key in another place; keys of other types.
		{[]string{tab, "1, 5", "v (k INT, KEY (k), REFERENCES (k) t)", "1"}, api.OK},
		{[]string{tab, "1, 5", "v (k INT, KEY (k), REFERENCES (k) t)", "1; 2"}, api.ErrRef},
		{[]string{"t (n INT, k TEXT, KEY (k))", "7, 'a'; 8, 'b'", "v (n INT, r TEXT, KEY (n), REFERENCES (r) t)", "1, 'b'; 2, 'a'"}, api.OK},
		{[]string{"t (n INT, k TEXT, KEY (k))", "7, 'a'; 8, 'b'", "v (n INT, r TEXT, KEY (n), REFERENCES (r) t)", "1, 'b'; 2, 'A'"}, api.ErrRef},
		{[]string{"t (n INT, k TEXT, KEY (k))", "7, 'a'; 8, 'b'", "v (n INT, r INT, KEY (n), REFERENCES (r) t)", "1, 7"}, api.ErrRef},
		{[]string{"t (k TEXT, KEY (k))", "'1'; '2'", ref, "1, 1"}, api.ErrRef},
		{[]string{"t (k TEXT, KEY (k))", "'1'; 'NULL'", ref, "1, NULL"}, api.OK},
		{[]string{"t (k BOOL, KEY (k))", "TRUE", "v (n INT, r BOOL, KEY (n), REFERENCES (r) t)", "1, TRUE"}, api.OK},
		{[]string{"t (k BOOL, KEY (k))", "TRUE", "v (n INT, r BOOL, KEY (n), REFERENCES (r) t)", "1, FALSE"}, api.ErrRef},
		{[]string{"t (k BOOL, KEY (k))", "TRUE", ref, "1, 1"}, api.ErrRef},
		// More references than one: each must be met.
		{[]string{tab, "1, 5", "u (k INT, KEY (k))", "2", "v (n INT, r INT, s INT, KEY (n), REFERENCES (r) t, REFERENCES (s) u)", "1, 1, 2; 2, NULL, 2; 3, 1, NULL"}, api.OK},
		{[]string{tab, "1, 5", "u (k INT, KEY (k))", "2", "v (n INT, r INT, s INT, KEY (n), REFERENCES (r) t, REFERENCES (s) u)", "1, 1, 1"}, api.ErrRef},
		{[]string{tab, "1, 5", "u (k INT, KEY (k))", "2", "v (n INT, r INT, s INT, KEY (n), REFERENCES (r) t, REFERENCES (s) u)", "1, 2, 2"}, api.ErrRef},
		{[]string{tab, "1, 5", "u (k INT, KEY (k))", "1; 2", "v (n INT, r INT, KEY (n), REFERENCES (r) t, REFERENCES (r) u)", "1, 1"}, api.OK},
		{[]string{tab, "1, 5", "u (k INT, KEY (k))", "1; 2", "v (n INT, r INT, KEY (n), REFERENCES (r) t, REFERENCES (r) u)", "1, 2"}, api.ErrRef},
		{[]string{tab, "1, 5", "u (k INT, KEY (k))", "2", "v (n INT, r INT, KEY (n), REFERENCES (r) t, REFERENCES (r) u)", "1, 1"}, api.ErrRef},
		{[]string{tab, "1, 5", "v (n INT, r INT, KEY (n), REFERENCES (r) t, REFERENCES (r) x)", ""}, api.ErrRef},
		{[]string{tab, "1, 5", "v (n INT, r INT, KEY (n), REFERENCES (r) x, REFERENCES (r) t)", ""}, api.ErrRef},
		{[]string{tab, "1, 5", "v (n INT, r INT, KEY (n), REFERENCES (r) t, REFERENCES (r) t)", "1, 1"}, api.OK},
	} {
		if got := base.Check(made(t, c.db...)); got != c.want {
			t.Errorf("%v: %d, not %d", c.db, got, c.want)
		}
	}
	if got := base.Check(three(t)); got != api.OK {
		t.Errorf("three: %d", got)
	}
}

// P8.1: table by table layer 7's error, wherever the table stands.
func TestCheckRels(t *testing.T) {
	faults := []struct {
		make func(x *api.Rel)
		want api.Errno
	}{
		{func(x *api.Rel) { x.T.Cols = nil }, api.ErrArg},
		{func(x *api.Rel) { x.T.Key = 9 }, api.ErrArg},
		{func(x *api.Rel) { x.T.Refs = []api.Foreign{{Col: 9, Table: "t"}} }, api.ErrArg},
		{func(x *api.Rel) { x.T.Refs = []api.Foreign{{Col: 0, Table: "KEY"}} }, api.ErrArg},
		{func(x *api.Rel) { x.T.Refs = []api.Foreign{{Col: -1, Table: "t"}} }, api.ErrArg},
		{func(x *api.Rel) { x.Rows = slices.Repeat(x.Rows, 201) }, api.ErrFull},
		{func(x *api.Rel) { x.Rows = append(x.Rows, nil) }, api.ErrArg},
		{func(x *api.Rel) { x.Rows = append(x.Rows, []api.Value{{Kind: 4}}) }, api.ErrArg},
		{func(x *api.Rel) { x.Rows = append(x.Rows, []api.Value{{}}) }, api.ErrNull},
		{func(x *api.Rel) { x.Rows = append(x.Rows, []api.Value{text("a")}) }, api.ErrType},
		{func(x *api.Rel) { x.Rows = append(x.Rows, []api.Value{num(10)}) }, api.ErrCheck},
		{func(x *api.Rel) { x.Rows = append(x.Rows, x.Rows[0]) }, api.ErrThere},
		{func(x *api.Rel) { x.Rows = append(x.Rows, []api.Value{num(0)}) }, api.ErrBad},
	}
	made := func() []api.Rel {
		db := named("a", "b", "t")
		for i := range db {
			db[i].T.Check = cond(t, "k < 10")
			db[i].Rows = [][]api.Value{{num(1)}}
		}
		return db
	}
	for i, f := range faults {
		for at := range 3 {
			db := made()
			f.make(&db[at])
			if got := base.Check(db); got != f.want {
				t.Errorf("fault %d of table %d: %d, not %d", i, at, got, f.want)
			}
			// Behind it another fault is not met.
			for j, g := range faults {
				for other := range 3 {
					if other == at {
						continue
					}
					db, want := made(), f.want
					f.make(&db[at])
					g.make(&db[other])
					if other < at {
						want = g.want
					}
					if got := base.Check(db); got != want {
						t.Errorf("faults %d of table %d, %d of table %d: %d, not %d", i, at, j, other, got, want)
					}
				}
			}
		}
	}
}

// P8.1, R2: of faults that apply together the one is answered that the chapter names first.
func TestCheckOrder(t *testing.T) {
	faults := []struct {
		make func(db *[]api.Rel)
		want api.Errno
	}{
		{func(db *[]api.Rel) { *db = append(*db, named("wa", "wb", "wc", "wd", "we", "wf", "wg", "wh", "wi")...) }, api.ErrFull},
		{func(db *[]api.Rel) { *db = append(*db, named("a")...) }, api.ErrBad},
		{func(db *[]api.Rel) { (*db)[1].T.Name, (*db)[0].T.Name = "t", "t" }, api.ErrBad},
		{func(db *[]api.Rel) { (*db)[0].Rows[2][1] = text("a") }, api.ErrThere},
		{func(db *[]api.Rel) { (*db)[2].Rows[0][1] = text("a") }, api.ErrType},
		{func(db *[]api.Rel) { (*db)[3].Rows[0][0] = api.Value{} }, api.ErrNull},
		{func(db *[]api.Rel) { (*db)[2].Rows[3][1] = num(9) }, api.ErrRef},
		{func(db *[]api.Rel) { (*db)[3].T.Refs[0].Table = "x" }, api.ErrRef},
	}
	for bits := range 1 << len(faults) {
		db, want := three(t), api.OK
		for i, f := range faults {
			if bits>>i&1 == 0 {
				continue
			}
			f.make(&db)
			if want == api.OK {
				want = f.want
			}
		}
		if got := base.Check(db); got != want {
			t.Errorf("faults %08b: %d, not %d", bits, got, want)
		}
	}
}

// R1: very many tables, rows and references.
func TestCheckGreat(t *testing.T) {
	if got := base.Check(make([]api.Rel, 1<<18)); got != api.ErrFull {
		t.Errorf("very many tables: %d", got)
	}
	db := three(t)
	db[2].Rows = slices.Repeat(db[2].Rows, 1<<16)
	if got := base.Check(db); got != api.ErrFull {
		t.Errorf("very many rows: %d", got)
	}
	db = made(t, "t (k INT, r INT, KEY (k), REFERENCES (r) t)", "")
	db[0].Rows = counted(api.MaxRows)
	for _, row := range db[0].Rows {
		row[1] = num(int64(api.MaxRows) + 1 - row[0].I)
	}
	db[0].T.Refs = slices.Repeat(db[0].T.Refs, 1<<14)
	if got := base.Check(db); got != api.OK {
		t.Errorf("very many references: %d", got)
	}
	db[0].T.Refs[1<<14-1].Table = "x"
	if got := base.Check(db); got != api.ErrRef {
		t.Errorf("very many references, the last one of which there is not: %d", got)
	}
	db[0].T.Refs = slices.Repeat([]api.Foreign{{Col: 0, Table: "t"}}, 1<<14)
	db[0].T.Refs[1<<14-1].Col, db[0].Rows[api.MaxRows-1][1] = 1, num(0)
	if got := base.Check(db); got != api.ErrRef {
		t.Errorf("very many references, the last one of which is not bound: %d", got)
	}
}
