package lexer_test

import (
	"regexp"
	"slices"
	"strings"
	"testing"

	"caddis/api"
	"caddis/lexer"
	"caddis/value"
)

const (
	most  = 1<<63 - 1
	least = -1 << 63
)

func token(kind int, s string) api.Token { return api.Token{Kind: kind, S: s} }

func word(s string) api.Token { return token(api.Word, s) }

func number(s string) api.Token { return token(api.Number, s) }

func str(s string) api.Token { return token(api.String, s) }

func sign(s string) api.Token { return token(api.Sign, s) }

// written is a token that may be, and how it stands in a statement as the chapter tells it.
type written struct {
	t api.Token
	s string
}

// good has tokens that may be: of each kind ordinary ones, the shortest and the longest.
func good() []written {
	l := []written{
		{str(""), "''"}, {str("a"), "'a'"}, {str("it's"), "'it''s'"}, {str("'"), "''''"}, {str("''"), "''''''"}, {str("'a"), "'''a'"}, {str("a'"), "'a'''"}, {str("' '"), "''' '''"},
		{str(" "), "' '"}, {str(" a  b "), "' a  b '"}, {str("a = 1"), "'a = 1'"}, {str("1"), "'1'"}, {str(";~\"_"), "';~\"_'"}, {str("NULL"), "'NULL'"},
		{str(strings.Repeat("~", 40)), "'" + strings.Repeat("~", 40) + "'"}, {str(strings.Repeat("'", 40)), strings.Repeat("'", 82)},
	}
	for _, s := range []string{"a", "z", "A", "Z", "a1", "a_", "a_1", "a__", "Z9_z", "SELECT", "select", "x1y2z3", "abcdefghijklmnop", "A_______________", "a000000000000009"} {
		l = append(l, written{word(s), s})
	}
	for _, s := range []string{"0", "9", "5", "00", "007", "10", "1234567890", "9223372036854775807", "9223372036854775808", "9999999999999999999", "0000000000000000000"} {
		l = append(l, written{number(s), s})
	}
	for _, s := range []string{"(", ")", ",", "=", "<", "+", "-", "*"} {
		l = append(l, written{sign(s), s})
	}
	return l
}

// bad has tokens that may not be.
func bad() []api.Token {
	var l []api.Token
	for _, s := range []string{"", "1", "1a", "_", "_a", "a b", " a", "a ", "a-b", "a'", "'a'", "(", "é", "aé", "a\x00", "a\xff", "a\n", "@", "[", "`", "{", "a.b", "ab$", "abcdefghijklmnopq", strings.Repeat("a", 1<<16)} {
		l = append(l, word(s))
	}
	for _, s := range []string{"", "a", "1a", "-1", "+1", "1.5", "1_0", " 1", "1 ", "0x1", "/", ":", "٣", "1\n", "12345678901234567890", "00000000000000000001", strings.Repeat("1", 1<<16)} {
		l = append(l, number(s))
	}
	for _, s := range []string{"\x1f", "\x7f", "\xff", "\x00", "a\n", "é", "\t", strings.Repeat("a", 41), strings.Repeat("'", 41), strings.Repeat("a", 1<<16)} {
		l = append(l, str(s))
	}
	for _, s := range []string{"", "((", "()", "( ", " (", " ", "\n", ";", ">", "!", "/", ".", "'", "_", "a", "1", "<=", "--", "\x00", "\xa8", "（"} {
		l = append(l, sign(s))
	}
	for _, kind := range []int{0, -1, 5, 257, most, least} {
		for _, s := range []string{"", "a", "1", "("} {
			l = append(l, token(kind, s))
		}
	}
	return l
}

// P3.1
func TestMay(t *testing.T) {
	for _, c := range good() {
		if !lexer.May(c.t) {
			t.Errorf("May(%v): false", c.t)
		}
	}
	for _, c := range bad() {
		if lexer.May(c) {
			t.Errorf("May(%v): true", c)
		}
	}
}

// P3.1: each octet, alone, as the first one and as a later one.
func TestMayOctets(t *testing.T) {
	for o := range 256 {
		s := string([]byte{byte(o)})
		letter := strings.Contains("abcdefghijklmnopqrstuvwxyzABCDEFGHIJKLMNOPQRSTUVWXYZ", s)
		digit := strings.Contains("0123456789", s)
		for _, c := range []struct {
			t    api.Token
			want bool
		}{
			{word(s), letter}, {word(s + "a"), letter}, {word("a" + s), letter || digit || s == "_"}, {word("a" + s + "b"), letter || digit || s == "_"},
			{number(s), digit}, {number(s + "1"), digit}, {number("1" + s), digit}, {number("1" + s + "2"), digit},
			{str(s), o >= 32 && o <= 126}, {str("a" + s + "b"), o >= 32 && o <= 126},
			{sign(s), strings.Contains("(),=<+-*", s)}, {sign(s + s), false},
		} {
			if got := lexer.May(c.t); got != c.want {
				t.Errorf("May(%v): %v", c.t, got)
			}
		}
	}
}

// P3.1: each length.
func TestMayLengths(t *testing.T) {
	for n := range 60 {
		for _, c := range []struct {
			t    api.Token
			want bool
		}{
			{word(strings.Repeat("a", n)), n >= 1 && n <= api.MaxName},
			{number(strings.Repeat("9", n)), n >= 1 && n <= 19},
			{str(strings.Repeat("'", n)), n <= api.MaxText},
			{sign(strings.Repeat("(", n)), n == 1},
		} {
			if got := lexer.May(c.t); got != c.want {
				t.Errorf("May(%v): %v", c.t, got)
			}
		}
	}
}

// P3.1
func TestName(t *testing.T) {
	l := bad()
	for _, c := range good() {
		l = append(l, c.t)
	}
	for _, c := range l {
		if got := lexer.Name(c.S); got != lexer.May(word(c.S)) {
			t.Errorf("Name(%q): %v", c.S, got)
		}
	}
	for s, want := range map[string]bool{"a": true, "NULL": true, "k_1": true, "abcdefghijklmnop": true, "abcdefghijklmnopq": false, "": false, "1a": false, "_a": false, "a b": false, "a-": false, "(": false, "ä": false} {
		if got := lexer.Name(s); got != want {
			t.Errorf("Name(%q): %v", s, got)
		}
	}
}

// P3.1
func TestIs(t *testing.T) {
	texts := []string{"", "a", "A", "ab", "b", "1", "(", ")", "=", "'", "''", "'a'", "SELECT", "select", "Select", "SELECTS", " SELECT"}
	for _, c := range good() {
		for _, s := range append(texts, c.t.S, c.s) {
			want := c.t.S == s && (c.t.Kind == api.Word || c.t.Kind == api.Sign)
			if got := lexer.Is(c.t, s); got != want {
				t.Errorf("Is(%v, %q): %v", c.t, s, got)
			}
		}
	}
	for _, kind := range []int{0, -1, 5, api.Number, api.String, most, least} {
		for _, s := range texts {
			if lexer.Is(token(kind, s), s) {
				t.Errorf("Is(%v, %q): true", token(kind, s), s)
			}
		}
	}
}

// cut is a statement, and the tokens that the chapter tells of it.
type cut struct {
	s string
	l []api.Token
}

// P3.2
func TestCut(t *testing.T) {
	for _, c := range []cut{
		{"", nil}, {" ", nil}, {"\n", nil}, {" \n \n\n  ", nil},
		{"a=1", []api.Token{word("a"), sign("="), number("1")}},
		{"'it''s'", []api.Token{str("it's")}},
		{"1a", []api.Token{number("1"), word("a")}},
		{"SELECT * FROM t WHERE k < 5", []api.Token{word("SELECT"), sign("*"), word("FROM"), word("t"), word("WHERE"), word("k"), sign("<"), number("5")}},
		{"INSERT INTO t VALUES(-1,'a',NULL)", []api.Token{word("INSERT"), word("INTO"), word("t"), word("VALUES"), sign("("), sign("-"), number("1"), sign(","), str("a"), sign(","), word("NULL"), sign(")")}},
		{" a ", []api.Token{word("a")}}, {"\na\n", []api.Token{word("a")}}, {"a\nb", []api.Token{word("a"), word("b")}}, {" \n a \n\n b \n ", []api.Token{word("a"), word("b")}},
		{"a_1b2", []api.Token{word("a_1b2")}}, {"12ab_3c", []api.Token{number("12"), word("ab_3c")}}, {"a1 1a", []api.Token{word("a1"), number("1"), word("a")}},
		{"007", []api.Token{number("007")}}, {"1 2", []api.Token{number("1"), number("2")}},
		{"-9223372036854775808", []api.Token{sign("-"), number("9223372036854775808")}}, {"9223372036854775807", []api.Token{number("9223372036854775807")}}, {"9999999999999999999a", []api.Token{number("9999999999999999999"), word("a")}},
		{"abcdefghijklmnop+abcdefghijklmnop", []api.Token{word("abcdefghijklmnop"), sign("+"), word("abcdefghijklmnop")}},
		{"<=", []api.Token{sign("<"), sign("=")}}, {"--", []api.Token{sign("-"), sign("-")}}, {"(),=<+-*", []api.Token{sign("("), sign(")"), sign(","), sign("="), sign("<"), sign("+"), sign("-"), sign("*")}},
		{"''", []api.Token{str("")}}, {"'' ''", []api.Token{str(""), str("")}}, {"''''", []api.Token{str("'")}}, {"''''''", []api.Token{str("''")}}, {"'''' ''", []api.Token{str("'"), str("")}},
		{"'a''b'", []api.Token{str("a'b")}}, {"'a' 'b'", []api.Token{str("a"), str("b")}}, {"'a'\n'b'", []api.Token{str("a"), str("b")}}, {"'''a'", []api.Token{str("'a")}}, {"'a'''", []api.Token{str("a'")}}, {"'a'' 'b", []api.Token{str("a' "), word("b")}},
		{"a'b'c", []api.Token{word("a"), str("b"), word("c")}}, {"'a'1'b'", []api.Token{str("a"), number("1"), str("b")}}, {"''a''", []api.Token{str(""), word("a"), str("")}},
		{"' a  b '", []api.Token{str(" a  b ")}}, {"';_\"~'", []api.Token{str(";_\"~")}},
		{"'" + strings.Repeat("a", 40) + "'", []api.Token{str(strings.Repeat("a", 40))}}, {strings.Repeat("'", 82), []api.Token{str(strings.Repeat("'", 40))}},
	} {
		if got, e := lexer.Cut(c.s); !slices.Equal(got, c.l) || e != api.OK {
			t.Errorf("Cut(%q): %v, %d, want %v", c.s, got, e, c.l)
		}
	}
}

// P3.2: what is no token, alone, and with tokens at either side.
func TestCutWrong(t *testing.T) {
	wrong := []string{
		";", ".", ">", "!", "/", "\"", "_", "_a", "\t", "\r", "\x00", "\v", "\x7f", "\xff", "é", "\u00a0", "\u2028",
		"1_", "1_a", "a-_", "a;b", "a\tb", "a.b", "k >= 1",
		"abcdefghijklmnopq", "a0123456789012345", "1abcdefghijklmnopq", "A________________", strings.Repeat("a", 32), strings.Repeat("a", 1<<16),
		"12345678901234567890", "00000000000000000000", "-12345678901234567890", strings.Repeat("1", 38), strings.Repeat("1", 1<<16),
		"'", "'''", "'''''", "'a", "'a b", "'a''", "'''a", "'a''b", "'' '", "'a'b'", "'it's'", "a '", "'a\n", "'" + strings.Repeat("''", 50),
		"'\n'", "'a\nb'", "'\t'", "'\x00'", "'\x1f'", "'\x7f'", "'\xff'", "'é'",
		"'" + strings.Repeat("a", 41) + "'", strings.Repeat("'", 84), "'" + strings.Repeat("a", 1<<16) + "'", strings.Repeat("'", 1<<16),
	}
	for _, s := range wrong {
		for _, c := range []string{s, " " + s, s + " ", "\n" + s + "\n", "a " + s, "( " + s, "'a' " + s, "1 " + s, s + " a", s + "\n)", s + " 1"} {
			if l, e := lexer.Cut(c); len(l) != 0 || e != api.ErrParse {
				t.Errorf("Cut(%q): %v, %d", c, l, e)
			}
		}
	}
}

// P3.2: each octet, alone, and between two Words.
func TestCutOctets(t *testing.T) {
	for o := range 256 {
		s := string([]byte{byte(o)})
		var alone, between []api.Token
		e := api.OK
		switch {
		case s == " " || s == "\n":
			between = []api.Token{word("a"), word("b")}
		case lexer.May(word(s)):
			alone, between = []api.Token{word(s)}, []api.Token{word("a" + s + "b")}
		case lexer.May(number(s)):
			alone, between = []api.Token{number(s)}, []api.Token{word("a" + s + "b")}
		case lexer.May(sign(s)):
			alone, between = []api.Token{sign(s)}, []api.Token{word("a"), sign(s), word("b")}
		default:
			e = api.ErrParse
		}
		if l, f := lexer.Cut(s); !slices.Equal(l, alone) || f != e {
			t.Errorf("Cut(%q): %v, %d", s, l, f)
		}
		if s == "_" {
			between, e = []api.Token{word("a_b")}, api.OK
		}
		if l, f := lexer.Cut("a" + s + "b"); !slices.Equal(l, between) || f != e {
			t.Errorf("Cut(a%qb): %v, %d", s, l, f)
		}
	}
}

// P3.2: MaxTokens tokens and one more.
func TestCutMany(t *testing.T) {
	for _, c := range good() {
		for _, n := range []int{1, 399, 400, 401, 402, 1000} {
			s := strings.Repeat(c.s+" ", n)
			want, e := slices.Repeat([]api.Token{c.t}, n), api.OK
			if n > api.MaxTokens {
				want, e = nil, api.ErrParse
			}
			for _, s := range []string{s, s[:len(s)-1], "\n" + s + " \n "} {
				if l, f := lexer.Cut(s); !slices.Equal(l, want) || f != e {
					t.Errorf("Cut of %d times %v: %d tokens, %d", n, c.t, len(l), f)
				}
			}
		}
	}
	if l, e := lexer.Cut(strings.Repeat("(", 1<<20)); len(l) != 0 || e != api.ErrParse {
		t.Errorf("Cut of very many: %d, %d", len(l), e)
	}
	if l, e := lexer.Cut(strings.Repeat("( ", 400) + ";"); len(l) != 0 || e != api.ErrParse {
		t.Errorf("Cut of 400 tokens and what is none: %d, %d", len(l), e)
	}
}

// P3.2
func TestJoin(t *testing.T) {
	var all []api.Token
	var texts []string
	for _, c := range good() {
		all, texts = append(all, c.t), append(texts, c.s)
		if s, e := lexer.Join([]api.Token{c.t}); s != c.s || e != api.OK {
			t.Errorf("Join(%v): %q, %d", c.t, s, e)
		}
	}
	for _, c := range []cut{
		{"", nil}, {"", []api.Token{}}, {strings.Join(texts, " "), all},
		{"a = 1", []api.Token{word("a"), sign("="), number("1")}}, {"( )", []api.Token{sign("("), sign(")")}}, {"'' ''", []api.Token{str(""), str("")}}, {"- 1 a 'it''s'", []api.Token{sign("-"), number("1"), word("a"), str("it's")}},
	} {
		before := slices.Clone(c.l)
		if s, e := lexer.Join(c.l); s != c.s || e != api.OK {
			t.Errorf("Join(%v): %q, %d, want %q", c.l, s, e, c.s)
		}
		if !slices.Equal(c.l, before) {
			t.Errorf("Join changed %v to %v", before, c.l)
		}
	}
}

// P3.2: a token that may not be, at each place; MaxTokens tokens and one more.
func TestJoinWrong(t *testing.T) {
	for _, b := range bad() {
		for _, l := range [][]api.Token{{b}, {b, word("a")}, {word("a"), b}, {word("a"), b, number("1")}, append(slices.Repeat([]api.Token{word("a")}, 399), b), slices.Repeat([]api.Token{b}, 401)} {
			if s, e := lexer.Join(l); s != "" || e != api.ErrArg {
				t.Errorf("Join of %d tokens, with %v: %q, %d", len(l), b, s, e)
			}
		}
	}
	for _, c := range good() {
		for _, n := range []int{399, 400, 401, 1000} {
			want, e := strings.TrimSuffix(strings.Repeat(c.s+" ", n), " "), api.OK
			if n > api.MaxTokens {
				want, e = "", api.ErrArg
			}
			if s, f := lexer.Join(slices.Repeat([]api.Token{c.t}, n)); s != want || f != e {
				t.Errorf("Join of %d times %v: %d octets, %d", n, c.t, len(s), f)
			}
		}
	}
}

// P3.3: what is joined is cut as it was, whichever token stands behind which.
func TestJoinCut(t *testing.T) {
	for _, a := range good() {
		for _, b := range good() {
			for _, l := range [][]api.Token{{a.t, b.t}, {a.t, b.t, a.t}, slices.Repeat([]api.Token{a.t, b.t}, 200)} {
				s, e := lexer.Join(l)
				if got, f := lexer.Cut(s); e != api.OK || f != api.OK || !slices.Equal(got, l) {
					t.Errorf("Cut(Join(%v)): %q, %d; %v, %d", l, s, e, got, f)
				}
			}
		}
	}
}

// P3.3: blanks at either end, and more of them between two tokens, change nothing.
func TestBlanks(t *testing.T) {
	gaps := []string{" ", "\n", "  ", " \n", "\n ", "\n\n", strings.Repeat(" \n", 500)}
	for _, a := range good() {
		for _, b := range good() {
			want, e := lexer.Cut(a.s + " " + b.s)
			for _, gap := range gaps {
				for _, s := range []string{a.s + gap + b.s, gap + a.s + " " + b.s, a.s + " " + b.s + gap, gap + a.s + gap + b.s + gap} {
					if l, f := lexer.Cut(s); !slices.Equal(l, want) || f != e {
						t.Errorf("Cut(%q): %v, %d", s, l, f)
					}
				}
			}
		}
	}
}

// piece matches what stands together at the beginning of a text, as the chapter tells it: a Word, a Number, a String, a Sign.
var piece = regexp.MustCompile(`^(?:([A-Za-z][A-Za-z0-9_]*)|([0-9]+)|('(?:[^']|'')*')|([(),=<+*-]))`)

// cutAgain is Cut done another way.
func cutAgain(s string) ([]api.Token, api.Errno) {
	var l []api.Token
	for s = strings.Trim(s, " \n"); s != ""; s = strings.TrimLeft(s, " \n") {
		m := piece.FindStringSubmatch(s)
		if m == nil {
			return nil, api.ErrParse
		}
		kind := slices.IndexFunc(m[1:], func(s string) bool { return s != "" }) + 1
		text := m[kind]
		if kind == api.String {
			text = strings.ReplaceAll(text[1:len(text)-1], "''", "'")
			if !value.May(api.Value{Kind: api.Text, S: text}) {
				return nil, api.ErrParse
			}
		}
		if kind == api.Word && len(text) > 16 || kind == api.Number && len(text) > 19 {
			return nil, api.ErrParse
		}
		l = append(l, token(kind, text))
		s = s[len(m[0]):]
	}
	return l, api.OK
}

// P3.2, P3.3: of all texts that are short, and of few octets.
func TestAllShort(t *testing.T) {
	const octets = "aZ_1'( \n;\xff"
	now := []string{""}
	for range 6 {
		var longer []string
		for _, s := range now {
			for i := range len(octets) {
				longer = append(longer, s+octets[i:i+1])
			}
			want, e := cutAgain(s)
			l, f := lexer.Cut(s)
			if !slices.Equal(l, want) || f != e {
				t.Fatalf("Cut(%q): %v, %d, want %v, %d", s, l, f, want, e)
			}
			if f != api.OK {
				continue
			}
			joined, e := lexer.Join(l)
			if got, f := lexer.Cut(joined); e != api.OK || f != api.OK || !slices.Equal(got, l) {
				t.Fatalf("Join(Cut(%q)): %q, %d; cut: %v, %d", s, joined, e, got, f)
			}
		}
		now = longer
	}
}

// P3.2, P3.3: words and digits that are as long as may be, and one more, at each place among blanks, signs and Strings.
func TestLongAmong(t *testing.T) {
	long := []string{strings.Repeat("a", 15), strings.Repeat("b", 16), strings.Repeat("c", 17), strings.Repeat("1", 18), strings.Repeat("2", 19), strings.Repeat("3", 20), "'" + strings.Repeat("d", 40) + "'", "'" + strings.Repeat("e", 41) + "'", "'", " ", "(", "_"}
	for _, a := range long {
		for _, b := range long {
			for _, c := range long {
				s := a + b + c
				want, e := cutAgain(s)
				if l, f := lexer.Cut(s); !slices.Equal(l, want) || f != e {
					t.Errorf("Cut(%q): %v, %d, want %v, %d", s, l, f, want, e)
				}
			}
		}
	}
}
