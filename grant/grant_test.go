package grant_test

import (
	"slices"
	"strconv"
	"strings"
	"testing"

	"caddis/api"
	"caddis/stmt"
)

// parsed is a text's statement.
func parsed(t testing.TB, s string) api.Stmt {
	t.Helper()
	x, e := stmt.Parse(s)
	if e != api.OK {
		t.Fatalf("%s is no statement", s)
	}
	return x
}

// grants are grants as they stand, with a comma between each two: of each the role, the table, and + if it writes.
func grants(s string) []api.Grant {
	var l []api.Grant
	for _, one := range strings.Split(s, ",") {
		if f := strings.Fields(one); len(f) > 1 {
			l = append(l, api.Grant{Role: f[0], Table: f[1], Write: len(f) > 2})
		}
	}
	return l
}

// told is grants as they are written: what grants reads.
func told(l []api.Grant) string {
	var s []string
	for _, g := range l {
		one := g.Role + " " + g.Table
		if g.Write {
			one += " +"
		}
		s = append(s, one)
	}
	return strings.Join(s, ", ")
}

// counted is n grants that rise: that of the role raa, rab and so on, to read t.
func counted(n int) []api.Grant {
	var l []api.Grant
	for i := range n {
		l = append(l, api.Grant{Role: string([]byte{'r', 'a' + byte(i/26%26), 'a' + byte(i%26)}), Table: "t"})
	}
	return l
}

// twofold is grants, and of each one that writes, too.
func twofold(l []api.Grant) []api.Grant {
	var out []api.Grant
	for _, g := range l {
		out = append(out, g, api.Grant{Role: g.Role, Table: g.Table, Write: true})
	}
	return out
}

// language has the words of the language, as the chapters 4 and 5 tell them.
func language() []string {
	return strings.Fields("AND OR NOT IS NULL TRUE FALSE CREATE TABLE INT TEXT BOOL KEY UNIQUE REFERENCES CHECK DROP INSERT INTO VALUES UPDATE SET WHERE DELETE FROM SELECT GRANT READ WRITE ON TO REVOKE MIGRATE COPY JOIN GROUP BY SUM")
}

// named: may a name be a text?
func named(s string) bool {
	for i := range len(s) {
		c := s[i]
		small, great, digit := 'a' <= c && c <= 'z', 'A' <= c && c <= 'Z', '0' <= c && c <= '9'
		if !small && !great && (i == 0 || !digit && c != '_') {
			return false
		}
	}
	return s != "" && len(s) <= 16 && !slices.Contains(language(), s)
}

// texts are texts that are names, and such as are none.
func texts() []string {
	l := []string{
		"t", "T", "k9", "a_", "a__1", "admin", "Admin", "ADMIN", "admi", "admins", "read", "Read", "lit", "and", "select", "DROPS", "S", "abcdefghijklmnop", "A234567890123456",
		"", " ", "1", "1a", "_", "_a", "a b", " a", "a ", "a\n", "a,b", "a-b", "a.b", "'a'", "*", "(", "abcdefghijklmnopq", strings.Repeat("a", 1<<16), "\x00", "a\x00", "\xff", "ä", "aä", "\u00e9", "世",
	}
	for c := range 256 {
		l = append(l, string([]byte{byte(c)}), string([]byte{'a', byte(c)}))
	}
	return append(l, language()...)
}

// model is grants told another way: of each its role, its table, and R or W, with octets 0 between, so that they rise as texts do.
type model map[string]struct{}

// code is a grant as a model has it.
func code(g api.Grant) string {
	if g.Write {
		return g.Role + "\x00" + g.Table + "\x00W"
	}
	return g.Role + "\x00" + g.Table + "\x00R"
}

// modelled is the model of grants.
func modelled(l []api.Grant) model {
	m := model{}
	for _, g := range l {
		m[code(g)] = struct{}{}
	}
	return m
}

// list is a model's grants, rising.
func (m model) list() []api.Grant {
	var keys []string
	for k := range m {
		keys = append(keys, k)
	}
	slices.Sort(keys)
	var l []api.Grant
	for _, k := range keys {
		f := strings.Split(k, "\x00")
		l = append(l, api.Grant{Role: f[0], Table: f[1], Write: f[2] == "W"})
	}
	return l
}

// has: is there that grant?
func (m model) has(role, table, what string) bool {
	_, ok := m[role+"\x00"+table+"\x00"+what]
	return ok
}

// may is what the chapter says of a role that would do a statement.
func (m model) may(role string, s api.Stmt) bool {
	reads, writes := m.has(role, s.Table, "R"), m.has(role, s.Table, "W")
	return role == "admin" || s.Op == "select" && reads || (s.Op == "insert" || s.Op == "update" || s.Op == "delete") && reads && writes
}

// both is what the chapter says of Both.
func (m model) both(u string, tables ...string) model {
	out := model{}
	roles := map[string]struct{}{}
	for k := range m {
		f := strings.Split(k, "\x00")
		roles[f[0]] = struct{}{}
		if f[1] != u {
			out[k] = struct{}{}
		}
	}
	for role := range roles {
		for _, what := range []string{"R", "W"} {
			all := true
			for _, t := range tables {
				all = all && m.has(role, t, what)
			}
			if all {
				out[role+"\x00"+u+"\x00"+what] = struct{}{}
			}
		}
	}
	return out
}

// roomy is the same grants, with room behind them that holds others.
func roomy(l []api.Grant) []api.Grant {
	return append(slices.Clone(l), grants("yy yy, zz zz")...)[:len(l)]
}

// kept says whether grants of roomy, and what is behind them, are as they were.
func kept(l, was []api.Grant) bool {
	return told(l) == told(was) && told(l[:len(l)+2]) == told(append(slices.Clone(was), grants("yy yy, zz zz")...))
}

// subsets calls with each subset of grants, in order.
func subsets(l []api.Grant, each func([]api.Grant)) {
	for bits := range 1 << len(l) {
		var some []api.Grant
		for i, g := range l {
			if bits>>i&1 == 1 {
				some = append(some, g)
			}
		}
		each(some)
	}
}

// strange are grants that may not be, by what is wrong.
func strange() map[string][]api.Grant {
	m := map[string][]api.Grant{
		"too many":              counted(api.MaxGrants + 1),
		"twice":                 grants("r t, r t"),
		"roles fall":            grants("s t, r t, r t +"),
		"tables fall":           grants("r t, r t +, r s"),
		"writes ahead of reads": grants("r t +, r t"),
		"no role":               {{Table: "t"}, {Role: "r", Table: "t"}},
		"no table":              {{Role: "r"}, {Role: "r", Table: "t"}, {Role: "r", Table: "t", Write: true}},
		"nothing":               {{}},
		"admin":                 grants("admin t, r t, r t +"),
		"admin writes":          grants("admin t +, r t, r t +"),
		"a word as a role":      grants("KEY t, r t, r t +"),
		"a word as a table":     grants("r KEY, r t, r t +"),
	}
	for i, s := range []string{"1", "a b", "abcdefghijklmnopq", "\x00", "ä"} {
		m["role "+strconv.Itoa(i)] = []api.Grant{{Role: s, Table: "t"}}
		m["table "+strconv.Itoa(i)] = []api.Grant{{Role: "r", Table: s}}
	}
	return m
}
