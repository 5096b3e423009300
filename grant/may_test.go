package grant_test

import (
	"strings"
	"testing"

	"caddis/api"
	"caddis/grant"
)

// about are statements of each Op about a table.
func about(t testing.TB, table string) []api.Stmt {
	var l []api.Stmt
	for _, s := range []string{
		"CREATE TABLE # (k INT, KEY (k))", "CREATE TABLE # (k INT, KEY (k), REFERENCES (k) t, REFERENCES (k) u)", "DROP TABLE #",
		"INSERT INTO # VALUES (1)", "UPDATE # SET k = 1", "UPDATE # SET k = 1 WHERE k < 3", "DELETE FROM #", "DELETE FROM # WHERE k IS NULL", "SELECT * FROM #", "SELECT * FROM # WHERE k = 1",
		"GRANT READ ON # TO r", "GRANT WRITE ON # TO r", "REVOKE READ ON # FROM r", "REVOKE WRITE ON # FROM r",
		"MIGRATE COPY # FROM t (k)", "MIGRATE COPY x FROM # (k)", "MIGRATE JOIN # FROM t, u ON k", "MIGRATE JOIN x FROM #, t ON k", "MIGRATE GROUP # FROM t BY k SUM d", "MIGRATE GROUP x FROM # BY k SUM d",
	} {
		l = append(l, parsed(t, strings.ReplaceAll(s, "#", table)))
	}
	return l
}

// P9.2: all subsets of few grants, each role, each Op.
func TestMay(t *testing.T) {
	var asked []api.Stmt
	for _, table := range []string{"t", "u", "r"} {
		asked = append(asked, about(t, table)...)
	}
	subsets(grants("R t, r t, r t +, r u, r u +, s t, s t +, t r"), func(l []api.Grant) {
		m := modelled(l)
		for _, role := range []string{"r", "s", "t", "R", "rr", "x", "", "Admin", "ADMIN", "admin", "admin ", "KEY"} {
			for _, s := range asked {
				if got, want := grant.May(l, role, s), m.may(role, s); got != want {
					t.Errorf("%q, %s of %s, by %s: %v", role, s.Op, s.Table, told(l), got)
				}
			}
		}
	})
}

// P9.2: what each Op asks, alone.
func TestMayOps(t *testing.T) {
	for _, c := range []struct {
		grants, may string
	}{
		{"", ""},
		{"r t", "select"},
		{"r t +", ""},
		{"r t, r t +", "select insert update delete"},
		{"s t, s t +", ""},
		{"r u, r u +", ""},
		{"r u, r u +, s t, s t +", ""},
		{"r t, s t +", "select"},
		{"r t, r u +", "select"},
		{"r t +, r u", ""},
		{"r T, r T +", ""},
		{"R t, R t +", ""},
	} {
		for _, s := range about(t, "t") {
			want := strings.Contains(" "+c.may+" ", " "+s.Op+" ")
			if got := grant.May(grants(c.grants), "r", s); got != want {
				t.Errorf("r may %s, by %s: %v", s.Op, c.grants, got)
			}
			if !grant.May(grants(c.grants), "admin", s) {
				t.Errorf("the admin may not %s, by %s", s.Op, c.grants)
			}
		}
	}
}

// P9.2: at MaxGrants each grant is found, and no other one.
func TestMayFull(t *testing.T) {
	asked := about(t, "t")
	for _, n := range []int{0, 1, 2, 3, 7, api.MaxGrants/2 - 1, api.MaxGrants / 2} {
		l := twofold(counted(n))
		m := modelled(l)
		for i, g := range counted(api.MaxGrants/2 + 2) {
			for _, s := range asked {
				if got, want := grant.May(l, g.Role, s), m.may(g.Role, s); got != want {
					t.Errorf("role %d of %d, %s: %v", i, n, s.Op, got)
				}
			}
		}
	}
}

// P9.2: who has grants of all else may nothing of t.
func TestMayOther(t *testing.T) {
	for _, s := range about(t, "t") {
		if grant.May(twofold(grants("r a, r s, r tt, r u, rr t, s t")), "r", s) {
			t.Errorf("r may %s", s.Op)
		}
	}
}

// P9.2: a statement's Op, and its Table, are asked alone; the admin may all, whatever that is.
func TestMayStrange(t *testing.T) {
	l := twofold(grants("r t, r u"))
	for _, s := range []api.Stmt{
		{}, {Table: "t"}, {Op: "x", Table: "t"}, {Op: "SELECT", Table: "t"}, {Op: "select ", Table: "t"}, {Op: "sel", Table: "t"}, {Op: "Insert", Table: "t"}, {Op: "select\x00", Table: "t"},
		{Op: "select"}, {Op: "select", Other: "t"}, {Op: "select", Table: "KEY"}, {Op: "select", Table: "t "}, {Op: "insert"}, {Op: "delete", Table: strings.Repeat("t", 1<<20)},
		{Op: strings.Repeat("select", 1<<18), Table: "t"}, {Op: "read", Table: "t", Role: "r"}, {Op: "copy", Table: "t", Other: "t"}, {Op: "drop", Table: "t"},
	} {
		for _, role := range []string{"r", "", "s", "KEY", strings.Repeat("r", 1<<20)} {
			if grant.May(l, role, s) {
				t.Errorf("%.20q may do %.20q of %.20q", role, s.Op, s.Table)
			}
		}
		if !grant.May(l, "admin", s) || !grant.May(nil, "admin", s) {
			t.Errorf("the admin may not do %.20q of %.20q", s.Op, s.Table)
		}
	}
	for _, op := range []string{"select", "insert", "update", "delete"} {
		for _, s := range []api.Stmt{{Op: op, Table: "t"}, {Op: op, Table: "t", Other: "x", Role: "x", Where: api.Expr{Op: "x"}}} {
			if !grant.May(l, "r", s) || grant.May(l, "s", s) || grant.May(l[:1], "r", s) != (op == "select") {
				t.Errorf("%s: the grants are not what is asked", op)
			}
		}
	}
}

// R3: May leaves grants as they are.
func TestMayKeeps(t *testing.T) {
	for _, l := range [][]api.Grant{nil, rise(), grants("s t, r t")} {
		room := roomy(l)
		grant.May(room, "r", parsed(t, "SELECT * FROM t"))
		grant.May(room, "admin", parsed(t, "DELETE FROM t"))
		if !kept(room, l) {
			t.Errorf("%s were changed", told(l))
		}
	}
}
