package grant_test

import (
	"math/rand"
	"slices"
	"strings"
	"testing"

	"caddis/api"
	"caddis/grant"
)

// done is the grants behind a statement, and its error; it tells what holds of all of them: what was handed in is as it was, no memory is shared with it, there are none with an error, and without one they may be.
func done(t *testing.T, l []api.Grant, s api.Stmt) ([]api.Grant, api.Errno) {
	t.Helper()
	room := roomy(l)
	got, e := grant.Do(room, s)
	if !kept(room, l) {
		t.Errorf("%s, by %s: the grants were changed to %s", s.Op, told(l), told(room))
	}
	if e != api.OK && got != nil || e == api.OK && grant.Check(got) != api.OK {
		t.Errorf("%s, by %s: %d, %s", s.Op, told(l), e, told(got))
	}
	if len(got) > 0 && len(room) > 0 {
		was := got[0]
		room[0] = api.Grant{Role: "changed"}
		if got[0] != was {
			t.Errorf("%s, by %s: the answer shares memory with what was handed in", s.Op, told(l))
		}
	}
	return got, e
}

// P9.3: what is given, and taken, with each Op.
func TestDo(t *testing.T) {
	for _, c := range []struct {
		was, s, want string
	}{
		{"", "GRANT READ ON t TO r", "r t"},
		{"", "GRANT WRITE ON t TO r", "r t +"},
		{"", "REVOKE READ ON t FROM r", ""},
		{"", "REVOKE WRITE ON t FROM r", ""},
		{"r t", "GRANT READ ON t TO r", "r t"},
		{"r t", "GRANT WRITE ON t TO r", "r t, r t +"},
		{"r t +", "GRANT READ ON t TO r", "r t, r t +"},
		{"r t +", "GRANT WRITE ON t TO r", "r t +"},
		{"r t, r t +", "GRANT READ ON t TO r", "r t, r t +"},
		{"r t, r t +", "REVOKE READ ON t FROM r", "r t +"},
		{"r t, r t +", "REVOKE WRITE ON t FROM r", "r t"},
		{"r t", "REVOKE WRITE ON t FROM r", "r t"},
		{"r t +", "REVOKE READ ON t FROM r", "r t +"},
		{"r t", "REVOKE READ ON t FROM r", ""},
		{"r t +", "REVOKE WRITE ON t FROM r", ""},
		{"r t", "REVOKE READ ON r FROM t", "r t"},
		{"r t", "REVOKE READ ON T FROM r", "r t"},
		{"r t", "REVOKE READ ON t FROM R", "r t"},
		{"r t", "GRANT READ ON r TO t", "r t, t r"},
		{"r t", "GRANT READ ON t TO q", "q t, r t"},
		{"r t", "GRANT READ ON t TO ra", "r t, ra t"},
		{"r t", "GRANT READ ON t TO R", "R t, r t"},
		{"r t", "GRANT READ ON s TO r", "r s, r t"},
		{"r t", "GRANT READ ON ta TO r", "r t, r ta"},
		{"q t, r s, r t, r t +, r u, s t", "REVOKE READ ON t FROM r", "q t, r s, r t +, r u, s t"},
		{"q t, r s, r u, s t", "GRANT WRITE ON t TO r", "q t, r s, r t +, r u, s t"},
		{"q t, r s, r u, s t", "GRANT WRITE ON admin TO r", "q t, r admin +, r s, r u, s t"},
		{"q t, s t", "GRANT READ ON t TO Admin", "Admin t, q t, s t"},
		{"q t, s t", "GRANT READ ON t TO admins", "admins t, q t, s t"},
	} {
		got, e := done(t, grants(c.was), parsed(t, c.s))
		if e != api.OK || told(got) != c.want {
			t.Errorf("%s, by %s: %d, %s, not %s", c.s, c.was, e, told(got), c.want)
		}
	}
}

// P9.3: each grant, of each subset of others, goes where it stands, and away from there.
func TestDoPlaces(t *testing.T) {
	l := grants("R t, a b, a b +, a1 a, a_ A, aa a +, b a, r t, r t +, z z +")
	subsets(l, func(some []api.Grant) {
		for _, g := range l {
			what, m := "READ", modelled(some)
			if g.Write {
				what = "WRITE"
			}
			m[code(g)] = struct{}{}
			if got, e := grant.Do(some, parsed(t, "GRANT "+what+" ON "+g.Table+" TO "+g.Role)); e != api.OK || told(got) != told(m.list()) {
				t.Errorf("%s with %s: %d, %s", told(some), told([]api.Grant{g}), e, told(got))
			}
			delete(m, code(g))
			if got, e := grant.Do(some, parsed(t, "REVOKE "+what+" ON "+g.Table+" FROM "+g.Role)); e != api.OK || told(got) != told(m.list()) {
				t.Errorf("%s without %s: %d, %s", told(some), told([]api.Grant{g}), e, told(got))
			}
		}
	})
}

// P9.3: below MaxGrants, at it, and what is among them.
func TestDoFull(t *testing.T) {
	for n := range api.MaxGrants + 1 {
		l := counted(n)
		for _, s := range []string{"GRANT READ ON t TO x", "GRANT WRITE ON t TO raa", "GRANT READ ON a TO rab", "GRANT READ ON t TO a"} {
			want, size := api.OK, n+1
			if n == api.MaxGrants {
				want, size = api.ErrFull, 0
			}
			if got, e := done(t, l, parsed(t, s)); e != want || len(got) != size {
				t.Errorf("%d grants, %s: %d, %d", n, s, e, len(got))
			}
		}
		for i, g := range l {
			if got, e := done(t, l, parsed(t, "GRANT READ ON t TO "+g.Role)); e != api.OK || told(got) != told(l) {
				t.Errorf("%d grants, with %d again: %d, %s", n, i, e, told(got))
			}
			if got, e := done(t, l, parsed(t, "REVOKE READ ON t FROM "+g.Role)); e != api.OK || told(got) != told(slices.Delete(counted(n), i, i+1)) {
				t.Errorf("%d grants, without %d: %d, %s", n, i, e, told(got))
			}
		}
		for _, s := range []string{"REVOKE READ ON t FROM x", "REVOKE WRITE ON t FROM raa", "REVOKE READ ON u FROM rab"} {
			if got, e := done(t, l, parsed(t, s)); e != api.OK || told(got) != told(l) {
				t.Errorf("%d grants, %s: %d, %s", n, s, e, told(got))
			}
		}
	}
}

// P9.3: statements of other Ops, of the admin, and such as may not be: ErrArg, even if grants are full.
func TestDoStrange(t *testing.T) {
	l := []api.Stmt{{}, {Op: "read"}, {Op: "x", Table: "t", Role: "r"}}
	for _, s := range about(t, "t") {
		if s.Role == "" || s.Op == "join" {
			l = append(l, s)
		}
		if s.Op != "read" && s.Op != "write" && s.Op != "unread" && s.Op != "unwrite" {
			s.Role = "r"
			l = append(l, s)
		}
	}
	for _, op := range []string{"read", "write", "unread", "unwrite"} {
		good := api.Stmt{Op: op, Table: "t", Role: "r"}
		if _, e := done(t, nil, good); e != api.OK {
			t.Errorf("%s: %d", op, e)
		}
		for _, change := range []func(x *api.Stmt){
			func(x *api.Stmt) { x.Op = strings.ToUpper(x.Op) },
			func(x *api.Stmt) { x.Op += " " },
			func(x *api.Stmt) { x.Op = x.Op[:3] },
			func(x *api.Stmt) { x.Role = "admin" },
			func(x *api.Stmt) { x.Role = "" },
			func(x *api.Stmt) { x.Role = "KEY" },
			func(x *api.Stmt) { x.Role = "abcdefghijklmnopq" },
			func(x *api.Stmt) { x.Role = strings.Repeat("r", 1<<20) },
			func(x *api.Stmt) { x.Table = "" },
			func(x *api.Stmt) { x.Table = "READ" },
			func(x *api.Stmt) { x.Table = "1" },
			func(x *api.Stmt) { x.Table = "abcdefghijklmnopq" },
			func(x *api.Stmt) { x.Other = "t" },
			func(x *api.Stmt) { x.Names = []string{"k"} },
			func(x *api.Stmt) { x.Cols = []api.Column{{Name: "k", Type: api.Int}} },
			func(x *api.Stmt) { x.Key = "k" },
			func(x *api.Stmt) { x.Uniques = []string{"k"} },
			func(x *api.Stmt) { x.Refs = []api.Ref{{}} },
			func(x *api.Stmt) { x.Row = []api.Value{{}} },
			func(x *api.Stmt) { x.Sets = []api.Set{{}} },
			func(x *api.Stmt) { x.Check = api.Expr{S: "k"} },
			func(x *api.Stmt) { x.Where = api.Expr{Op: "col", S: "k"} },
		} {
			x := good
			change(&x)
			l = append(l, x)
		}
	}
	for _, s := range l {
		for _, have := range [][]api.Grant{nil, grants("r t, r t +"), counted(api.MaxGrants)} {
			if _, e := done(t, have, s); e != api.ErrArg {
				t.Errorf("%.20q of %.20q, %.20q, by %d grants: %d", s.Op, s.Table, s.Role, len(have), e)
			}
		}
	}
	for s, want := range map[string]api.Errno{"GRANT READ ON t TO admin": api.ErrArg, "GRANT WRITE ON t TO admin": api.ErrArg, "REVOKE READ ON t FROM admin": api.ErrArg, "REVOKE WRITE ON t FROM admin": api.ErrArg, "GRANT READ ON t TO ADMIN": api.OK, "GRANT READ ON admin TO r": api.OK} {
		if _, e := done(t, nil, parsed(t, s)); e != want {
			t.Errorf("%s: %d, not %d", s, e, want)
		}
	}
	// R2: lists without elements are as nil ones.
	x := parsed(t, "GRANT READ ON t TO r")
	x.Names, x.Cols, x.Uniques, x.Refs, x.Row, x.Sets = []string{}, []api.Column{}, []string{}, []api.Ref{}, []api.Value{}, []api.Set{}
	if got, e := done(t, []api.Grant{}, x); e != api.OK || told(got) != "r t" {
		t.Errorf("lists without elements: %d, %s", e, told(got))
	}
}

// P9.3, P9.5: long walks, held step by step against the model: what is granted is allowed till it is revoked.
func TestWalks(t *testing.T) {
	roles, tables := strings.Fields("r s R admin rr a_ a1 x"), strings.Fields("t u T tt v")
	met := map[api.Errno]int{}
	var ask [][]api.Stmt
	for _, table := range tables {
		ask = append(ask, about(t, table))
	}
	for seed := range int64(6) {
		r := rand.New(rand.NewSource(seed))
		m, l := model{}, []api.Grant(nil)
		for range 600 {
			g := api.Grant{Role: roles[r.Intn(len(roles))], Table: tables[r.Intn(len(tables))], Write: r.Intn(2) == 0}
			s := api.Stmt{Op: "read", Table: g.Table, Role: g.Role}
			if g.Write {
				s.Op = "write"
			}
			want, before := api.OK, told(l)
			// Grants come more often than they go, so that there are many.
			if gives := r.Intn(12) > 0; !gives {
				s.Op = "un" + s.Op
				delete(m, code(g))
			} else if g.Role != "admin" {
				m[code(g)] = struct{}{}
			}
			if len(m) > api.MaxGrants {
				delete(m, code(g))
				want = api.ErrFull
			}
			if g.Role == "admin" {
				want = api.ErrArg
			}
			got, e := done(t, l, s)
			if e == api.OK {
				l = got
			}
			if e != want || told(l) != told(m.list()) {
				t.Fatalf("seed %d, %s of %s to %s, by %s: %d, %s", seed, s.Op, s.Table, s.Role, before, e, told(got))
			}
			met[e]++
			for _, role := range roles {
				some := ask[r.Intn(len(ask))]
				s := some[r.Intn(len(some))]
				if grant.May(l, role, s) != m.may(role, s) {
					t.Fatalf("seed %d, %s, %s of %s, by %s", seed, role, s.Op, s.Table, told(l))
				}
			}
		}
	}
	for _, e := range []api.Errno{api.OK, api.ErrArg, api.ErrFull} {
		if met[e] < 50 {
			t.Errorf("error %d was met %d times", e, met[e])
		}
	}
}

// P9.5: one role's one grant, from GRANT to REVOKE, whatever else is granted and revoked between.
func TestTillRevoked(t *testing.T) {
	steps := strings.Split("GRANT READ ON u TO r; GRANT WRITE ON u TO r; REVOKE READ ON u FROM r; GRANT READ ON t TO s; REVOKE WRITE ON t FROM s; GRANT WRITE ON t TO s; REVOKE READ ON t FROM s; REVOKE WRITE ON u FROM r; GRANT READ ON a TO a; REVOKE READ ON a FROM a", "; ")
	walk := func(l []api.Grant, s string) []api.Grant {
		l, e := grant.Do(l, parsed(t, s))
		if e != api.OK {
			t.Fatalf("%s: %d", s, e)
		}
		return l
	}
	l := walk(walk(nil, "GRANT READ ON t TO r"), "GRANT WRITE ON t TO r")
	for _, s := range steps {
		l = walk(l, s)
		for _, x := range about(t, "t") {
			if want := strings.Contains("select insert update delete", x.Op); grant.May(l, "r", x) != want {
				t.Errorf("behind %s: r, %s: %v", s, x.Op, !want)
			}
		}
	}
	l = walk(l, "REVOKE WRITE ON t FROM r")
	for _, s := range steps {
		l = walk(l, s)
		for _, x := range about(t, "t") {
			if want := x.Op == "select"; grant.May(l, "r", x) != want {
				t.Errorf("behind %s: r, that may read, %s: %v", s, x.Op, !want)
			}
		}
	}
	l = walk(l, "REVOKE READ ON t FROM r")
	for _, s := range steps {
		l = walk(l, s)
		for _, x := range about(t, "t") {
			if grant.May(l, "r", x) {
				t.Errorf("behind %s: r, that may nothing, %s", s, x.Op)
			}
		}
	}
}

// P9.5: grants of other tables play no part.
func TestOtherTables(t *testing.T) {
	subsets(grants("a t +, r T +, r s, r s +, r t, r t +, r u, r u +, s t, s u +"), func(l []api.Grant) {
		var own []api.Grant
		for _, g := range l {
			if g.Table == "t" {
				own = append(own, g)
			}
		}
		for _, s := range about(t, "t") {
			for _, role := range []string{"a", "r", "s", "admin"} {
				if grant.May(l, role, s) != grant.May(own, role, s) {
					t.Errorf("%s, %s: by %s, and by %s", role, s.Op, told(l), told(own))
				}
			}
		}
	})
}
