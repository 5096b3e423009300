package grant_test

import (
	"slices"
	"strings"
	"testing"

	"caddis/api"
	"caddis/grant"
)

// P9.1: none, MaxGrants, and more.
func TestCheckCount(t *testing.T) {
	for n := range 2*api.MaxGrants + 5 {
		want := api.OK
		if n > api.MaxGrants {
			want = api.ErrFull
		}
		if got := grant.Check(counted(n)); got != want {
			t.Errorf("%d grants: %d, not %d", n, got, want)
		}
		if got := grant.Check(twofold(counted(n))[:n]); got != want {
			t.Errorf("%d grants that read and write: %d, not %d", n, got, want)
		}
	}
	if got := grant.Check([]api.Grant{}); got != api.OK {
		t.Errorf("no grants: %d", got)
	}
}

// P9.1: a grant's role and table are names, and the role is not the admin.
func TestCheckNames(t *testing.T) {
	met := 0
	for _, s := range texts() {
		for _, write := range []bool{false, true} {
			role, table := api.ErrArg, api.ErrArg
			if named(s) {
				table = api.OK
				met++
			}
			if named(s) && s != "admin" {
				role = api.OK
			}
			if got := grant.Check([]api.Grant{{Role: s, Table: "t", Write: write}}); got != role {
				t.Errorf("the role %.40q: %d, not %d", s, got, role)
			}
			if got := grant.Check([]api.Grant{{Role: "r", Table: s, Write: write}}); got != table {
				t.Errorf("the table %.40q: %d, not %d", s, got, table)
			}
			if got := grant.Check([]api.Grant{{Role: s, Table: s, Write: write}}); got != role {
				t.Errorf("role and table %.40q: %d, not %d", s, got, role)
			}
		}
	}
	if met < 100 {
		t.Errorf("%d names were met", met)
	}
}

// P9.1: one that may not be is met wherever it stands.
func TestCheckEach(t *testing.T) {
	for n := 1; n <= api.MaxGrants+2; n++ {
		for i := range n {
			for _, bad := range []api.Grant{{Role: "admin", Table: "t"}, {Role: "r"}, {Table: "t"}, {Role: "KEY", Table: "t"}, {Role: "r", Table: "NULL", Write: true}} {
				l := counted(n)
				l[i] = bad
				if got := grant.Check(l); got != api.ErrArg {
					t.Errorf("%v at %d of %d: %d", bad, i, n, got)
				}
			}
		}
	}
}

// rise are grants that rise, as the chapter tells their order.
func rise() []api.Grant {
	return grants("A z, Aa a, B a +, a T, a T +, a a, a a +, a a1, a a1 +, a aA, a a_, a a_ +, a aa, a b +, a1 a, a1 a +, aA a, a_ a, aa A, aa a, aa a +, admins t, b a, b a +, z A")
}

// P9.1: grants rise, octet by octet, none twice, wherever two stand that do not.
func TestCheckOrder(t *testing.T) {
	all := rise()
	if got := grant.Check(all); got != api.OK {
		t.Fatalf("%s: %d", told(all), got)
	}
	for i, a := range all {
		for j, b := range all {
			for k, c := range all {
				want := api.OK
				if i >= j || j >= k {
					want = api.ErrBad
				}
				if got := grant.Check([]api.Grant{a, b, c}); got != want {
					t.Errorf("%s: %d, not %d", told([]api.Grant{a, b, c}), got, want)
				}
			}
			want := api.OK
			if i >= j {
				want = api.ErrBad
			}
			if got := grant.Check([]api.Grant{a, b}); got != want {
				t.Errorf("%s: %d, not %d", told([]api.Grant{a, b}), got, want)
			}
		}
	}
	for n := 2; n <= api.MaxGrants; n++ {
		for i := range n - 1 {
			l := counted(n)
			l[i], l[i+1] = l[i+1], l[i]
			if got := grant.Check(l); got != api.ErrBad {
				t.Errorf("%d and the next one of %d stand the other way round: %d", i, n, got)
			}
			l = counted(n)
			l[i+1] = l[i]
			if got := grant.Check(l); got != api.ErrBad {
				t.Errorf("%d of %d is there twice: %d", i, n, got)
			}
		}
	}
}

// P9.1: of all faults together the first one's error.
func TestCheckFaults(t *testing.T) {
	for bits := range 1 << 4 {
		n := api.MaxGrants
		want := api.OK
		if bits&(8|4) != 0 {
			want = api.ErrBad
		}
		if bits&2 != 0 {
			n, want = n+1, api.ErrFull
		}
		l := counted(n)
		if bits&8 != 0 {
			slices.Reverse(l)
		}
		if bits&4 != 0 {
			l[7] = l[6]
		}
		if bits&1 != 0 {
			l[n-1], want = api.Grant{Role: "admin", Table: "t"}, api.ErrArg
		}
		if got := grant.Check(l); got != want {
			t.Errorf("faults %04b: %d, not %d", bits, got, want)
		}
	}
}

// P9.1: what may not be, by what is wrong.
func TestCheckStrange(t *testing.T) {
	for what, l := range strange() {
		want := api.ErrArg
		switch {
		case what == "too many":
			want = api.ErrFull
		case what == "twice" || strings.Contains(what, "fall") || strings.Contains(what, "ahead"):
			want = api.ErrBad
		}
		if got := grant.Check(l); got != want {
			t.Errorf("%s: %d, not %d", what, got, want)
		}
	}
	many := slices.Repeat(grants("r t"), 1<<18)
	if got := grant.Check(many); got != api.ErrFull {
		t.Errorf("very many grants: %d", got)
	}
	many[len(many)-1].Role = strings.Repeat("r", 1<<20)
	if got := grant.Check(many); got != api.ErrArg {
		t.Errorf("very many grants, and a very long name: %d", got)
	}
}

// P9.1: of grants that may not be May is false, whoever asks, and Do ErrArg, and has none.
func TestOfStrange(t *testing.T) {
	for what, l := range strange() {
		for _, s := range []string{"SELECT * FROM t", "DELETE FROM t", "INSERT INTO t VALUES (1)", "UPDATE t SET k = 1", "SELECT * FROM x", "DROP TABLE t", "GRANT READ ON t TO r"} {
			for _, role := range []string{"r", "s", "raa", "admin", ""} {
				if grant.May(l, role, parsed(t, s)) {
					t.Errorf("%s: %s may %s", what, role, s)
				}
			}
		}
		for _, s := range []string{"GRANT READ ON t TO r", "GRANT WRITE ON x TO r", "REVOKE READ ON t FROM r", "REVOKE WRITE ON t FROM s", "REVOKE READ ON t FROM rca", "GRANT READ ON t TO admin", "SELECT * FROM t"} {
			if got, e := grant.Do(l, parsed(t, s)); e != api.ErrArg || got != nil {
				t.Errorf("%s: %s: %s, %d", what, s, told(got), e)
			}
		}
	}
}

// P9.1: Check leaves grants as they are.
func TestCheckKeeps(t *testing.T) {
	for i, l := range [][]api.Grant{nil, rise(), grants("s t, r t"), counted(api.MaxGrants + 1), grants("admin t")} {
		room := roomy(l)
		grant.Check(room)
		if !kept(room, l) {
			t.Errorf("grants %d were changed", i)
		}
	}
}
