package grant_test

import (
	"slices"
	"strings"
	"testing"

	"caddis/api"
	"caddis/grant"
)

// both is Both's answer; it tells what holds of all of them: what was handed in is as it was, and no memory is shared with it.
func both(t *testing.T, l []api.Grant, u string, tables ...string) []api.Grant {
	t.Helper()
	room, names := roomy(l), slices.Clone(tables)
	got := grant.Both(room, u, names...)
	if !kept(room, l) || !slices.Equal(names, tables) {
		t.Errorf("%s, %v, by %s: they were changed to %v, %s", u, tables, told(l), names, told(room))
	}
	was := told(got)
	for i := range room {
		room[i] = api.Grant{}
	}
	if told(got) != was {
		t.Errorf("%s, %v, by %s: the answer shares memory with what was handed in", u, tables, told(l))
	}
	return got
}

// P9.4: without each table, of all subsets.
func TestWithout(t *testing.T) {
	subsets(grants("R t, a t +, r T, r s, r t, r t +, r tt, r u +, s t, t u"), func(l []api.Grant) {
		for _, table := range []string{"t", "T", "s", "tt", "u", "r", "x", "", "KEY"} {
			var want []api.Grant
			for _, g := range l {
				if g.Table != table {
					want = append(want, g)
				}
			}
			room := roomy(l)
			if got := grant.Without(room, table); told(got) != told(want) || !kept(room, l) {
				t.Errorf("%s without %q: %s", told(l), table, told(got))
			}
		}
	})
	for n := range api.MaxGrants + 1 {
		if got := grant.Without(counted(n), "u"); told(got) != told(counted(n)) {
			t.Errorf("%d grants without those of another table: %s", n, told(got))
		}
		if got := grant.Without(counted(n), "t"); len(got) != 0 {
			t.Errorf("%d grants without all: %s", n, told(got))
		}
	}
}

// P9.4: Without has memory of its own, and grants that may not be stay as they stand.
func TestWithoutStrange(t *testing.T) {
	l := grants("r t, r u")
	got := grant.Without(l, "x")
	if got[0].Role = "z"; l[0].Role != "r" {
		t.Error("the answer shares memory with what was handed in")
	}
	for was, want := range map[string]string{"s u, r t, r u": "s u, r u", "r t, r t, s t, a t": "", "r u, r u, r t": "r u, r u", "admin t, admin u, KEY t": "admin u"} {
		if got := grant.Without(grants(was), "t"); told(got) != want {
			t.Errorf("%s without t: %s", was, told(got))
		}
	}
	none := []api.Grant{{}, {Role: "r"}, {Table: "t"}}
	if got := grant.Without(none, ""); len(got) != 1 || got[0] != none[2] {
		t.Errorf("without those of no table: %v", got)
	}
	if got := grant.Without(counted(1<<16), "x"); len(got) != 1<<16 {
		t.Errorf("very many grants: %d", len(got))
	}
	if got := grant.Without(nil, "t"); len(got) != 0 {
		t.Errorf("no grants: %v", got)
	}
}

// P9.4: of one table, of two, of three, with each Op, by hand.
func TestBoth(t *testing.T) {
	for _, c := range []struct {
		was, tables, want string
	}{
		{"", "t", ""},
		{"r t", "t", "r t, r u"},
		{"r t +", "t", "r t +, r u +"},
		{"r t, r t +", "t", "r t, r t +, r u, r u +"},
		{"r v", "t", "r v"},
		{"r t, r v", "t v", "r t, r u, r v"},
		{"r t, r v", "v t", "r t, r u, r v"},
		{"r t, r v +", "t v", "r t, r v +"},
		{"r t +, r v", "t v", "r t +, r v"},
		{"r t +, r v +", "t v", "r t +, r u +, r v +"},
		{"r t, r t +, r v", "t v", "r t, r t +, r u, r v"},
		{"r t, r t +, r v, r v +", "t v", "r t, r t +, r u, r u +, r v, r v +"},
		{"r t, s v", "t v", "r t, s v"},
		{"r t, r v, s t, s v", "t v", "r t, r u, r v, s t, s u, s v"},
		{"a t, a v +, r t, r v, s t", "t v", "a t, a v +, r t, r u, r v, s t"},
		{"r t, r v", "t v w", "r t, r v"},
		{"r t, r v, r w", "t v w", "r t, r u, r v, r w"},
		{"r t, r v", "t t v", "r t, r u, r v"},
		{"r t, r v", "x", "r t, r v"},
		{"r t, r v", "t x", "r t, r v"},
		{"r t, r v", "x t", "r t, r v"},
		// What was had of u itself is gone.
		{"r u", "t", ""},
		{"r u, r u +, s u", "t", ""},
		{"r t, s u", "t", "r t, r u"},
		{"r t, r u +", "t", "r t, r u"},
		{"r t, r u, r v", "t v", "r t, r u, r v"},
		{"r t, r u", "t v", "r t"},
		{"r t, s u +, s v", "t", "r t, r u, s v"},
		// Names that are nearly others.
		{"R t, r v", "t v", "R t, r v"},
		{"r T, r v", "t v", "r T, r v"},
		{"r tt, rr t", "t", "r tt, rr t, rr u"},
		{"r t, r ta, r z, ra t, ra z +", "t z", "r t, r ta, r u, r z, ra t, ra z +"},
		// u is one of the tables: who had grants of all has them.
		{"r u", "u", "r u"},
		{"r u, r u +, s u +", "u", "r u, r u +, s u +"},
		{"r t, r u, s t, t u", "t u", "r t, r u, s t"},
	} {
		if got := both(t, grants(c.was), "u", strings.Fields(c.tables)...); told(got) != c.want {
			t.Errorf("u of %s, by %s: %s, not %s", c.tables, c.was, told(got), c.want)
		}
	}
}

// P9.4: all subsets of few grants, and all short lists of tables, held against the model.
func TestBothAll(t *testing.T) {
	names := []string{"t", "u", "v"}
	var lists [][]string
	for _, a := range names {
		lists = append(lists, []string{a})
		for _, b := range names {
			lists = append(lists, []string{a, b})
			for _, c := range names {
				lists = append(lists, []string{a, b, c})
			}
		}
	}
	subsets(twofold(grants("r t, r u, r v, s t, s v")), func(l []api.Grant) {
		m := modelled(l)
		for _, tables := range lists {
			for _, u := range []string{"u", "a"} {
				want := m.both(u, tables...).list()
				if got := both(t, l, u, tables...); told(got) != told(want) || grant.Check(got) != api.OK {
					t.Fatalf("%s of %v, by %s: %s, not %s", u, tables, told(l), told(got), told(want))
				}
			}
		}
	})
}

// P9.4: who may read all of the tables may read u then, and nobody else; likewise write.
func TestBothMay(t *testing.T) {
	s := func(op, table string) api.Stmt { return api.Stmt{Op: op, Table: table} }
	subsets(twofold(grants("r t, r u, r v, s t, s v")), func(l []api.Grant) {
		got := grant.Both(l, "u", "t", "v")
		for _, role := range []string{"r", "s", "x", "admin"} {
			for _, op := range []string{"select", "insert", "update", "delete"} {
				if grant.May(got, role, s(op, "u")) != (grant.May(l, role, s(op, "t")) && grant.May(l, role, s(op, "v"))) {
					t.Errorf("%s, %s of u, by %s", role, op, told(l))
				}
				for _, other := range []string{"t", "v", "x"} {
					if grant.May(got, role, s(op, other)) != grant.May(l, role, s(op, other)) {
						t.Errorf("%s, %s of %s, by %s", role, op, other, told(l))
					}
				}
			}
		}
	})
}

// P9.4: there may be more than MaxGrants behind Both; without those of the sources they are no more than there were.
func TestBothFull(t *testing.T) {
	for n := range api.MaxGrants/2 + 1 {
		for _, u := range []string{"u", "a"} {
			l := twofold(counted(n))
			got := both(t, l, u, "t")
			if told(got) != told(modelled(l).both(u, "t").list()) || len(got) != 4*n {
				t.Errorf("%d roles, %s: %s", n, u, told(got))
			}
			for i := range l {
				l[i].Table = u
			}
			if got = grant.Without(got, "t"); told(got) != told(l) || grant.Check(got) != api.OK {
				t.Errorf("%d roles, %s, without t: %s", n, u, told(got))
			}
		}
	}
}

// P9.4: of no table, and of names that are none.
func TestBothNone(t *testing.T) {
	for _, was := range []string{"", "r t", "r t, r t +, r u, s u", "r u"} {
		if got := both(t, grants(was), "u"); told(got) != told(grant.Without(grants(was), "u")) {
			t.Errorf("of no table, by %s: %s", was, told(got))
		}
		for _, u := range []string{"", "KEY", strings.Repeat("u", 1<<16)} {
			want := modelled(grants(was)).both(u, "t").list()
			if got := both(t, grants(was), u, "t"); told(got) != told(want) {
				t.Errorf("%.20q of t, by %s: %.200s", u, was, told(got))
			}
			if got := both(t, grants(was), "u", "t", u); told(got) != told(grant.Without(grants(was), "u")) {
				t.Errorf("of t and %.20q, by %s: %s", u, was, told(got))
			}
		}
	}
}

// P9.4: grants that may not be: the others stay as they stand, each new one is there once.
func TestBothStrange(t *testing.T) {
	for _, c := range []struct {
		was, tables, want string
	}{
		{"s t, r t", "t", "r u, s t, r t, s u"},
		{"r z, r t", "t", "r u, r z, r t"},
		{"r t, r t", "t", "r t, r t, r u"},
		{"r v, r t, r u, r v", "t v", "r u, r v, r t, r v"},
		{"r t, r v, r t, r v", "t v", "r t, r u, r v, r t, r v"},
		{"r t +, r t", "t", "r t +, r t, r u, r u +"},
		{"z t, z v, a t", "v t", "z t, z u, z v, a t"},
	} {
		if got := both(t, grants(c.was), "u", strings.Fields(c.tables)...); told(got) != c.want {
			t.Errorf("u of %s, by %s: %s, not %s", c.tables, c.was, told(got), c.want)
		}
	}
}

// R1: very many grants, and very many tables.
func TestBothMany(t *testing.T) {
	var l []api.Grant
	var tables []string
	for i := range 1 << 16 {
		table := "t" + string([]byte{'a' + byte(i>>12), 'a' + byte(i>>8&15), 'a' + byte(i>>4&15), 'a' + byte(i&15)})
		l = append(l, api.Grant{Role: "r", Table: table})
		tables = append(tables, table)
	}
	if got := grant.Both(l, "u", tables...); len(got) != len(l)+1 || got[len(l)] != (api.Grant{Role: "r", Table: "u"}) {
		t.Errorf("all tables of one role: %d", len(got))
	}
	slices.Reverse(l)
	if got := grant.Both(l, "u", append(tables, "x")...); len(got) != len(l) {
		t.Errorf("all tables of one role, and one more: %d", len(got))
	}
	same := slices.Repeat(grants("r t"), 1<<16)
	if got := grant.Both(same, "u", slices.Repeat([]string{"t"}, 1<<16)...); len(got) != len(same)+1 {
		t.Errorf("one table very often: %d", len(got))
	}
	for i := range l {
		l[i].Role, l[i].Table = l[i].Table, "t"
	}
	for _, n := range []int{1, 1 << 16} {
		if got := grant.Both(l, "u", slices.Repeat([]string{"t"}, n)...); len(got) != 2*len(l) {
			t.Errorf("one table, %d times, of very many roles: %d", n, len(got))
		}
	}
}
