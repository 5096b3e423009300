package value_test

import (
	"math/big"
	"strings"
	"testing"

	"caddis/api"
	"caddis/value"
)

const (
	most  = 1<<63 - 1
	least = -1 << 63
)

var (
	null = api.Value{}
	no   = api.Value{Kind: api.Bool}
	yes  = api.Value{Kind: api.Bool, I: 1}
)

func num(n int64) api.Value { return api.Value{Kind: api.Int, I: n} }

func text(s string) api.Value { return api.Value{Kind: api.Text, S: s} }

func truth(b bool) api.Value {
	if b {
		return yes
	}
	return no
}

// rising has values that may be, each ahead of the next one.
func rising() []api.Value {
	return []api.Value{
		null,
		num(least), num(least + 1), num(-10), num(-1), num(0), num(1), num(9), num(10), num(most - 1), num(most),
		text(""), text(" "), text("'"), text("''"), text("-1"), text("0"), text("NULL"), text("TRUE"), text("a"), text("a "), text("ab"), text("b"), text(strings.Repeat("~", 39)), text(strings.Repeat("~", 40)),
		no, yes,
	}
}

// strange has values that may not be.
func strange() []api.Value {
	return []api.Value{
		{I: 1}, {I: -1}, {S: "a"}, {S: "NULL"},
		{Kind: api.Int, S: "a"}, {Kind: api.Int, I: 5, S: "5"},
		{Kind: api.Text, I: 1}, {Kind: api.Text, I: -1, S: "a"},
		{Kind: api.Text, S: strings.Repeat("a", 41)}, {Kind: api.Text, S: strings.Repeat("a", 1<<16)},
		{Kind: api.Text, S: "\x1f"}, {Kind: api.Text, S: "\x7f"}, {Kind: api.Text, S: "\xff"}, {Kind: api.Text, S: "ab\n"}, {Kind: api.Text, S: "\x00"}, {Kind: api.Text, S: "é"}, {Kind: api.Text, S: "\ufffd"},
		{Kind: api.Bool, I: 2}, {Kind: api.Bool, I: -1}, {Kind: api.Bool, I: 1, S: "a"}, {Kind: api.Bool, S: "FALSE"},
		{Kind: 4}, {Kind: -1}, {Kind: 4, I: 1, S: "a"}, {Kind: most}, {Kind: least},
	}
}

func all() []api.Value { return append(rising(), strange()...) }

// P1.1
func TestMay(t *testing.T) {
	for _, v := range rising() {
		if !value.May(v) {
			t.Errorf("May(%v): false", v)
		}
	}
	for _, v := range strange() {
		if value.May(v) {
			t.Errorf("May(%v): true", v)
		}
	}
	for o := range 256 {
		s := string([]byte{'a', byte(o), 'b'})
		if got := value.May(text(s)); got != (o >= 32 && o <= 126) {
			t.Errorf("May of a text with octet %d: %v", o, got)
		}
	}
	for n := range 45 {
		if got := value.May(text(strings.Repeat("x", n))); got != (n <= api.MaxText) {
			t.Errorf("May of a text of %d octets: %v", n, got)
		}
	}
}

// P1.1
func TestOrder(t *testing.T) {
	l := rising()
	for i, a := range l {
		for j, b := range l {
			want := 0
			if i < j {
				want = -1
			} else if i > j {
				want = 1
			}
			if got := value.Order(a, b); got != want {
				t.Errorf("Order(%v, %v): %d", a, b, got)
			}
		}
	}
}

// P1.1: what may not be is as NULL, whatever is asked.
func TestStrange(t *testing.T) {
	two := []func(a, b api.Value) api.Value{value.And, value.Or, value.Equal, value.Less, value.Plus, value.Minus}
	one := []func(a api.Value) api.Value{value.Not, value.IsNull}
	for _, v := range strange() {
		if s := value.Text(v); s != "" {
			t.Errorf("Text(%v): %q", v, s)
		}
		for i, f := range one {
			if got := f(v); got != f(null) {
				t.Errorf("call %d of %v: %v", i, v, got)
			}
		}
		for _, w := range all() {
			if value.Order(v, w) != value.Order(null, w) || value.Order(w, v) != value.Order(w, null) {
				t.Errorf("Order of %v and %v", v, w)
			}
			for i, f := range two {
				if f(v, w) != f(null, w) || f(w, v) != f(w, null) {
					t.Errorf("call %d of %v and %v", i, v, w)
				}
			}
		}
	}
}

// P1.2
func TestLogic(t *testing.T) {
	for _, c := range []struct{ a, b, and, or api.Value }{
		{no, no, no, no}, {no, null, no, null}, {no, yes, no, yes},
		{null, null, null, null}, {null, yes, null, yes}, {yes, yes, yes, yes},
	} {
		if a, b := value.And(c.a, c.b), value.And(c.b, c.a); a != c.and || b != c.and {
			t.Errorf("And of %v and %v: %v, %v", c.a, c.b, a, b)
		}
		if a, b := value.Or(c.a, c.b), value.Or(c.b, c.a); a != c.or || b != c.or {
			t.Errorf("Or of %v and %v: %v, %v", c.a, c.b, a, b)
		}
	}
	if value.Not(no) != yes || value.Not(yes) != no || value.Not(null) != null {
		t.Error("Not")
	}
	for _, v := range all() {
		if value.May(v) && v.Kind == api.Bool {
			continue
		}
		if got := value.Not(v); got != null {
			t.Errorf("Not(%v): %v", v, got)
		}
		for _, w := range all() {
			if value.And(v, w) != value.And(null, w) || value.Or(v, w) != value.Or(null, w) {
				t.Errorf("what is no Bool: %v with %v", v, w)
			}
		}
	}
}

// P1.3
func TestCompare(t *testing.T) {
	l := rising()
	for i, a := range l {
		for j, b := range l {
			equal, less := truth(i == j), truth(i < j)
			if a == null || b == null || a.Kind != b.Kind {
				equal, less = null, null
			}
			if got := value.Equal(a, b); got != equal {
				t.Errorf("Equal(%v, %v): %v", a, b, got)
			}
			if got := value.Less(a, b); got != less {
				t.Errorf("Less(%v, %v): %v", a, b, got)
			}
		}
		if got := value.IsNull(a); got != truth(i == 0) {
			t.Errorf("IsNull(%v): %v", a, got)
		}
	}
}

// reckoned is the number of an exact answer; NULL, if it is none of 64 bits.
func reckoned(n *big.Int) api.Value {
	if !n.IsInt64() {
		return null
	}
	return num(n.Int64())
}

// P1.3
func TestReckon(t *testing.T) {
	var near []int64
	for d := range int64(4) {
		near = append(near, least+d, least/2+d, least/2-d, d, -d, most/2+d, most/2-d, most-d)
	}
	for _, a := range near {
		for _, b := range near {
			x, y := big.NewInt(a), big.NewInt(b)
			if got, want := value.Plus(num(a), num(b)), reckoned(new(big.Int).Add(x, y)); got != want {
				t.Errorf("Plus(%d, %d): %v, want %v", a, b, got, want)
			}
			if got, want := value.Minus(num(a), num(b)), reckoned(new(big.Int).Sub(x, y)); got != want {
				t.Errorf("Minus(%d, %d): %v, want %v", a, b, got, want)
			}
		}
	}
	for _, v := range all() {
		if value.May(v) && v.Kind == api.Int {
			continue
		}
		for _, w := range all() {
			if value.Plus(v, w) != null || value.Plus(w, v) != null || value.Minus(v, w) != null || value.Minus(w, v) != null {
				t.Errorf("what is no number: %v with %v", v, w)
			}
		}
	}
}

// P1.4
func TestText(t *testing.T) {
	for _, c := range []struct {
		v api.Value
		s string
	}{
		{null, "NULL"}, {no, "FALSE"}, {yes, "TRUE"},
		{num(0), "0"}, {num(7), "7"}, {num(-7), "-7"}, {num(100), "100"}, {num(most), "9223372036854775807"}, {num(least), "-9223372036854775808"},
		{text(""), "''"}, {text("a b"), "'a b'"}, {text("it's"), "'it''s'"}, {text("'"), "''''"}, {text("''"), "''''''"}, {text("NULL"), "'NULL'"}, {text("1"), "'1'"},
		{text(strings.Repeat("'", 40)), strings.Repeat("'", 82)},
	} {
		if got := value.Text(c.v); got != c.s {
			t.Errorf("Text(%v): %q, want %q", c.v, got, c.s)
		}
		if got, e := value.Parse(c.s); got != c.v || e != api.OK {
			t.Errorf("Parse(%q): %v, %d", c.s, got, e)
		}
	}
}

// P1.4
func TestParseWrong(t *testing.T) {
	for _, s := range []string{
		"", " ", "a", "null", "Null", "NULL ", " NULL", "NULLNULL", "true", "True", "TRUE ", "false", "FALSES",
		"-", "+", "+1", "-0", "00", "01", "-01", "--1", "1-", "1 ", " 1", "1_0", "0x1", "1e3", "1.0", "٣",
		"9223372036854775808", "-9223372036854775809", "18446744073709551615", strings.Repeat("9", 1<<12), "0" + strings.Repeat("0", 1<<12),
		"'", "'''", "'''''", "'a", "a'", "'a'b'", "'a''", "''a'", "'a' ", " 'a'", "'a''b", "\"a\"",
		"'" + strings.Repeat("a", 41) + "'", strings.Repeat("'", 84), "'\x1f'", "'\x7f'", "'\n'", "'\x00'", "'\xff'", "'é'", "TRUE\x00", "1\x00",
	} {
		if v, e := value.Parse(s); e != api.ErrForm || v != null {
			t.Errorf("Parse(%q): %v, %d", s, v, e)
		}
	}
}

// P1.5
func TestFollows(t *testing.T) {
	for _, a := range rising() {
		if got, e := value.Parse(value.Text(a)); got != a || e != api.OK {
			t.Errorf("Parse(Text(%v)): %v, %d", a, got, e)
		}
		for _, b := range all() {
			if value.And(a, b) != value.And(b, a) || value.Or(a, b) != value.Or(b, a) {
				t.Errorf("%v and %v the other way round", a, b)
			}
			if value.Not(value.And(a, b)) != value.Or(value.Not(a), value.Not(b)) {
				t.Errorf("Not of And of %v and %v", a, b)
			}
		}
	}
	for o := range 95 {
		v := text(string([]byte{byte(o + 32), '\'', byte(o + 32)}))
		if got, e := value.Parse(value.Text(v)); got != v || e != api.OK {
			t.Errorf("Parse(Text(%v)): %v, %d", v, got, e)
		}
	}
}
