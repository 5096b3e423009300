package stmt_test

import (
	"slices"
	"strconv"
	"strings"
	"testing"

	"caddis/api"
	"caddis/expr"
	"caddis/lexer"
	"caddis/stmt"
)

// wantNone tells if a text is parsed as anything.
func wantNone(t *testing.T, s string) {
	t.Helper()
	if got, e := stmt.Parse(s); e != api.ErrParse || !stmt.Same(got, api.Stmt{}) {
		t.Errorf("Parse(%.300q): %s, %d", s, told(got), e)
	}
}

// wantParse tells if a text is parsed as another statement than the one whose text is told.
func wantParse(t *testing.T, s, want string) {
	t.Helper()
	got, e := stmt.Parse(s)
	text, _ := stmt.Text(got)
	if e != api.OK || text != want || !stmt.May(got) {
		t.Errorf("Parse(%q): %s, %d, want %s", s, told(got), e, want)
	}
}

// P5.1
func TestParse(t *testing.T) {
	for _, s := range texts() {
		got, e := stmt.Parse(s)
		if e != api.OK || !stmt.Same(got, good()[s]) {
			t.Errorf("Parse(%s): %s, %d", s, told(got), e)
		}
		tight := s
		for _, x := range []string{"(", ")", ",", "=", "<", "+", "-", "*"} {
			tight = strings.ReplaceAll(strings.ReplaceAll(tight, " "+x, x), x+" ", x)
		}
		wantParse(t, tight, s)
		wantParse(t, "  "+strings.ReplaceAll(s, " ", "  \n")+"\n\n ", s)
	}
}

// P5.1: what is written otherwise than a text is.
func TestParseOther(t *testing.T) {
	for s, want := range map[string]string{
		"CREATE TABLE t (k INT, KEY (k))": "CREATE TABLE t ( k INT , KEY ( k ) )",
		"CREATE TABLE t (k INT NOT NULL, s TEXT, KEY (k), UNIQUE (s), REFERENCES (s) u, CHECK (k < 5 AND NOT s IS NULL))": "CREATE TABLE t ( k INT NOT NULL , s TEXT , KEY ( k ) , UNIQUE ( s ) , REFERENCES ( s ) u , CHECK ( ((k < 5) AND (NOT (s IS NULL))) ) )",
		"CREATE TABLE t(k INT,KEY(k),CHECK((k)))":                        "CREATE TABLE t ( k INT , KEY ( k ) , CHECK ( k ) )",
		"SELECT * FROM t WHERE k = 1":                                    "SELECT * FROM t WHERE (k = 1)",
		"SELECT*FROM t":                                                  "SELECT * FROM t",
		"SELECT * FROM t WHERE(k)":                                       "SELECT * FROM t WHERE k",
		"SELECT * FROM t WHERE ((((a = 1) OR b)))":                       "SELECT * FROM t WHERE ((a = 1) OR b)",
		"INSERT INTO t VALUES (1, 'a', NULL)":                            "INSERT INTO t VALUES ( 1 , 'a' , NULL )",
		"INSERT INTO t VALUES (- 1,-1,007,-007,-0,0000000000000000000)":  "INSERT INTO t VALUES ( -1 , -1 , 7 , -7 , 0 , 0 )",
		"INSERT INTO t VALUES(-9223372036854775808,9223372036854775807)": "INSERT INTO t VALUES ( -9223372036854775808 , 9223372036854775807 )",
		"INSERT INTO t VALUES('''','''a','a b','\"','(',')')":            "INSERT INTO t VALUES ( '''' , '''a' , 'a b' , '\"' , '(' , ')' )",
		"UPDATE t SET n = n + 1":                                         "UPDATE t SET n = (n + 1)",
		"UPDATE t SET n = n = 1 , m = m < 2 WHERE n = m AND TRUE":        "UPDATE t SET n = (n = 1) , m = (m < 2) WHERE ((n = m) AND TRUE)",
		"UPDATE t SET a=- 1,b=-1-1,c=c IS NULL WHERE NOT a":              "UPDATE t SET a = -1 , b = (-1 - 1) , c = (c IS NULL) WHERE (NOT a)",
		"DELETE FROM t WHERE a OR b AND c":                               "DELETE FROM t WHERE (a OR (b AND c))",
		"MIGRATE COPY u FROM t(a,b)CHECK(a IS NULL)":                     "MIGRATE COPY u FROM t ( a , b ) CHECK ( (a IS NULL) )",
		"MIGRATE JOIN u FROM v,t ON r":                                   "MIGRATE JOIN u FROM v , t ON r",
		"MIGRATE GROUP g FROM u BY s SUM d CHECK(0<d)":                   "MIGRATE GROUP g FROM u BY s SUM d CHECK ( (0 < d) )",
		"GRANT READ ON read TO write":                                    "GRANT READ ON read TO write",
		"DROP TABLE table":                                               "DROP TABLE table",
	} {
		wantParse(t, s, want)
	}
	// What stands in which part.
	s, _ := stmt.Parse("MIGRATE JOIN u FROM v, t ON r CHECK (x)")
	if s.Op != "join" || s.Table != "u" || s.Other != "v" || s.Role != "t" || s.Key != "r" || s.Check.S != "x" {
		t.Errorf("of a join: %v", s)
	}
	s, _ = stmt.Parse("MIGRATE GROUP g FROM u BY s SUM d")
	if s.Op != "group" || s.Table != "g" || s.Other != "u" || !slices.Equal(s.Names, []string{"s", "d"}) {
		t.Errorf("of a group: %v", s)
	}
	s, _ = stmt.Parse("CREATE TABLE t (a INT, b TEXT NOT NULL, c BOOL, KEY (d), REFERENCES (e) u)")
	if !slices.Equal(s.Cols, []api.Column{{Name: "a", Type: api.Int}, {Name: "b", Type: api.Text, NotNull: true}, {Name: "c", Type: api.Bool}}) || s.Key != "d" || s.Refs[0] != (api.Ref{Col: "e", Table: "u"}) {
		t.Errorf("of a create: %v", s)
	}
}

// P5.1: texts that are no statement's.
func TestParseWrong(t *testing.T) {
	for _, s := range []string{
		"", " ", "\n", "a", "1", "'a'", "(", ";", "DROP", "DROP t", "TABLE t", "DROP TABLE", "DROP TABLE t;", "DROP TABLE t t", "DROP TABLE t , u", "DROP TABLE 't'", "DROP TABLE 1", "DROP TABLE ( t )", "drop table t", "Drop TABLE t", "DROP\tTABLE t", "'DROP' TABLE t", "DROP 'TABLE' t", "DROPTABLE t", "DROP TABLEt", "DROP TABLE 1t", "DROP TABLE _t", "DROP TABLE abcdefghijklmnopq", "DROP TABLE t DROP TABLE t", "(DROP TABLE t)",
		"SELECT FROM t", "SELECT * t", "SELECT a FROM t", "SELECT * FROM t WHERE", "SELECT * FROM t k = 1", "SELECT * FROM t WHERE k = ", "SELECT * FROM t WHERE WHERE k", "SELECT * FROM t WHERE k WHERE k", "SELECT * FROM t WHERE k , k", "SELECT * FROM t WHERE (k", "SELECT * FROM t WHERE k)", "SELECT * FROM t WHERE k = 1 = 2", "SELECT * FROM t , u", "SELECT ( * ) FROM t", "SELECT '*' FROM t", "SELECT * FROM t CHECK ( a )", "SELECT * FROM WHERE k",
		"DELETE t", "DELETE FROM", "DELETE * FROM t", "DELETE FROM t WHERE", "DELETE FROM t WHERE a b", "DELETE FROM t a",
		"INSERT INTO t", "INSERT t VALUES ( 1 )", "INSERT INTO t ( 1 )", "INSERT INTO t VALUES", "INSERT INTO t VALUES 1", "INSERT INTO t VALUES ()", "INSERT INTO t VALUES ( )", "INSERT INTO t VALUES (1", "INSERT INTO t VALUES 1)", "INSERT INTO t VALUES (1,)", "INSERT INTO t VALUES (,1)", "INSERT INTO t VALUES (1,,1)", "INSERT INTO t VALUES (1 1)", "INSERT INTO t VALUES (a)", "INSERT INTO t VALUES (1 + 1)", "INSERT INTO t VALUES ((1))", "INSERT INTO t VALUES (1),(1)", "INSERT INTO t VALUES (NOT TRUE)", "INSERT INTO t VALUES (NULL IS NULL)", "INSERT INTO t VALUES (- a)", "INSERT INTO t VALUES (- 'a')", "INSERT INTO t VALUES (- NULL)", "INSERT INTO t VALUES (--1)", "INSERT INTO t VALUES (+1)", "INSERT INTO t VALUES (9223372036854775808)", "INSERT INTO t VALUES (-9223372036854775809)", "INSERT INTO t VALUES (true)", "INSERT INTO t VALUES (DEFAULT)", "INSERT INTO t VALUES ('a)", "INSERT INTO t VALUES (" + strconv.Quote("a") + ")", "INSERT INTO t VALUES ('" + strings.Repeat("a", 41) + "')", "INSERT INTO t VALUES ((1, 2))", "INSERT INTO t VALUES (1) WHERE a", "INSERT INTO t VALUES (*)",
		"UPDATE t", "UPDATE t SET", "UPDATE SET a = 1", "UPDATE t a = 1", "UPDATE t SET a", "UPDATE t SET a =", "UPDATE t SET = 1", "UPDATE t SET a 1", "UPDATE t SET a < 1", "UPDATE t SET a = 1 ,", "UPDATE t SET , a = 1", "UPDATE t SET a = 1 b = 2", "UPDATE t SET a = 1 , WHERE b", "UPDATE t SET a = 1 WHERE", "UPDATE t SET WHERE b", "UPDATE t SET (a = 1)", "UPDATE t SET a = b = c = d", "UPDATE t SET 1 = a", "UPDATE t SET NULL = 1", "UPDATE t SET 'a' = 1", "UPDATE t SET a = 1 WHERE b , c = 1", "UPDATE TABLE t SET a = 1", "UPDATE t SET a = WHERE",
		"GRANT READ ON t", "GRANT ON t TO r", "GRANT READ t TO r", "GRANT READ ON t r", "GRANT READ ON t TO", "GRANT READ ON t FROM r", "GRANT READ , WRITE ON t TO r", "GRANT READ WRITE ON t TO r", "GRANT READ ON t TO r , s", "GRANT READ ON t TO 'r'", "GRANT SELECT ON t TO r", "GRANT read ON t TO r", "GRANT 'READ' ON t TO r",
		"REVOKE READ ON t", "REVOKE READ ON t TO r", "REVOKE ON t FROM r", "REVOKE READ WRITE ON t FROM r", "REVOKE WRITE ON FROM r", "UNREAD ON t FROM r",
		"MIGRATE", "MIGRATE u", "MIGRATE u FROM t", "MIGRATE COPY", "MIGRATE COPY u", "MIGRATE COPY u FROM t", "MIGRATE COPY u t ( c )", "MIGRATE COPY u FROM t c", "MIGRATE COPY u FROM t ()", "MIGRATE COPY u FROM t ( c", "MIGRATE COPY u FROM t ( c , )", "MIGRATE COPY u FROM t ( c d )", "MIGRATE COPY u FROM t ( * )", "MIGRATE COPY u FROM t ( 1 )", "MIGRATE COPY u FROM t ( c ) CHECK", "MIGRATE COPY u FROM t ( c ) CHECK a", "MIGRATE COPY u FROM t ( c ) CHECK ()", "MIGRATE COPY u FROM t ( c ) CHECK ( a", "MIGRATE COPY u FROM t ( c ) CHECK ( a , b )", "MIGRATE COPY u FROM t ( c ) , CHECK ( a )", "MIGRATE COPY u FROM t ( c ) WHERE a", "MIGRATE COPY u FROM t ( c ) CHECK ( a ) CHECK ( b )", "MIGRATE COPY u FROM t CHECK ( a )", "MIGRATE COPY u FROM t ( c , CHECK ( a ) )", "MIGRATE COPY TABLE u FROM t ( c )", "COPY u FROM t ( c )", "MIGRATE SELECT * FROM t", "MIGRATE 'COPY' u FROM t ( c )", "MIGRATE MIGRATE COPY u FROM t ( c )",
		"MIGRATE JOIN u FROM t , r", "MIGRATE JOIN u FROM t r ON c", "MIGRATE JOIN u FROM t ON c", "MIGRATE JOIN u FROM t , r c", "MIGRATE JOIN u FROM t , r ON", "MIGRATE JOIN u FROM t , r ON ( c )", "MIGRATE JOIN u FROM t , r , s ON c", "MIGRATE JOIN u FROM t , r ON c , d", "MIGRATE JOIN u FROM t , r ON c = d", "MIGRATE JOIN u , v FROM t , r ON c", "MIGRATE JOIN u FROM t , r ON c BY d SUM e",
		"MIGRATE GROUP u FROM t", "MIGRATE GROUP u FROM t BY c", "MIGRATE GROUP u FROM t SUM d", "MIGRATE GROUP u FROM t BY c SUM", "MIGRATE GROUP u FROM t BY SUM d", "MIGRATE GROUP u FROM t SUM d BY c", "MIGRATE GROUP u FROM t BY c SUM d e", "MIGRATE GROUP u FROM t BY c , d SUM e", "MIGRATE GROUP u FROM t BY c SUM d , e", "MIGRATE GROUP u FROM t BY ( c ) SUM ( d )", "MIGRATE GROUP u FROM t BY c SUM d SUM e",
		"CREATE", "CREATE t", "CREATE TABLE t", "CREATE TABLE t ()", "CREATE TABLE t ( KEY ( k ) )", "CREATE TABLE t ( , KEY ( k ) )", "CREATE TABLE t ( k INT )", "CREATE TABLE t ( k INT , )", "CREATE TABLE t ( k INT KEY ( k ) )", "CREATE TABLE t ( k , KEY ( k ) )", "CREATE TABLE t ( INT , KEY ( k ) )", "CREATE TABLE t ( k INT , KEY k )", "CREATE TABLE t ( k INT , KEY ( ) )", "CREATE TABLE t ( k INT , KEY ( k , k ) )", "CREATE TABLE t ( k INT , KEY ( k )", "CREATE TABLE t k INT , KEY ( k )", "CREATE TABLE t ( k INT , KEY ( k ) ) )", "CREATE TABLE t ( k INT , KEY ( k ) , )", "CREATE TABLE t ( k INT , KEY ( k ) , KEY ( k ) )", "CREATE TABLE t ( k INT , KEY ( k ) , s TEXT )", "CREATE TABLE t ( KEY ( k ) , k INT )", "CREATE TABLE t ( k int , KEY ( k ) )", "CREATE TABLE t ( k INTEGER , KEY ( k ) )", "CREATE TABLE t ( k 'INT' , KEY ( k ) )", "CREATE TABLE t ( k INT NOT , KEY ( k ) )", "CREATE TABLE t ( k INT NULL , KEY ( k ) )", "CREATE TABLE t ( k NOT NULL , KEY ( k ) )", "CREATE TABLE t ( k NOT NULL INT , KEY ( k ) )", "CREATE TABLE t ( k INT NOT NULL NOT NULL , KEY ( k ) )", "CREATE TABLE t ( k INT TEXT , KEY ( k ) )", "CREATE TABLE t ( KEY INT , KEY ( k ) )", "CREATE TABLE t ( k NULL , KEY ( k ) )", "CREATE TABLE t ( k INT , , KEY ( k ) )", "CREATE TABLE t ( k INT , s , KEY ( k ) )", "CREATE TABLE ( k INT , KEY ( k ) )",
		"CREATE TABLE t ( k INT , UNIQUE ( k ) )", "CREATE TABLE t ( k INT , UNIQUE ( k ) , KEY ( k ) )", "CREATE TABLE t ( k INT , KEY ( k ) UNIQUE ( k ) )", "CREATE TABLE t ( k INT , KEY ( k ) , UNIQUE k )", "CREATE TABLE t ( k INT , KEY ( k ) , UNIQUE ( k , k ) )", "CREATE TABLE t ( k INT , KEY ( k ) , UNIQUE ( ) )", "CREATE TABLE t ( k INT , KEY ( k ) , UNIQUE )", "CREATE TABLE t ( k INT , KEY ( k ) , REFERENCES ( k ) )", "CREATE TABLE t ( k INT , KEY ( k ) , REFERENCES k u )", "CREATE TABLE t ( k INT , KEY ( k ) , REFERENCES ( k ) u v )", "CREATE TABLE t ( k INT , KEY ( k ) , REFERENCES ( k ) ( u ) )", "CREATE TABLE t ( k INT , KEY ( k ) , REFERENCES ( k ) u , UNIQUE ( k ) )", "CREATE TABLE t ( k INT , KEY ( k ) , CHECK ( k ) , UNIQUE ( k ) )", "CREATE TABLE t ( k INT , KEY ( k ) , CHECK ( k ) , REFERENCES ( k ) u )", "CREATE TABLE t ( k INT , KEY ( k ) , CHECK ( k ) , CHECK ( k ) )", "CREATE TABLE t ( k INT , KEY ( k ) , CHECK k )", "CREATE TABLE t ( k INT , KEY ( k ) , CHECK ( ) )", "CREATE TABLE t ( k INT , KEY ( k ) CHECK ( k ) )", "CREATE TABLE t ( k INT , KEY ( k ) ) CHECK ( k )", "CREATE TABLE t ( k INT , KEY ( k ) , CHECK ( k , k ) )", "CREATE TABLE t ( k INT , CHECK ( k ) , KEY ( k ) )",
	} {
		wantNone(t, s)
	}
}

// P5.1: how many there may be of each list.
func TestParseCounts(t *testing.T) {
	for n := range 30 {
		list := func(s string) string { return strings.Join(slices.Repeat([]string{s}, n), " , ") }
		for _, c := range []struct {
			s           string
			least, most int
		}{
			{"CREATE TABLE t ( " + list("c INT") + " , KEY ( c ) )", 1, api.MaxCols},
			{"CREATE TABLE t ( c INT , KEY ( c )" + strings.Repeat(" , UNIQUE ( c )", n) + " )", 0, api.MaxCols},
			{"CREATE TABLE t ( c INT , KEY ( c )" + strings.Repeat(" , REFERENCES ( c ) u", n) + " )", 0, api.MaxCols},
			{"INSERT INTO t VALUES ( " + list("-1") + " )", 1, api.MaxRow},
			{"UPDATE t SET " + list("a = 1"), 1, api.MaxCols},
			{"UPDATE t SET " + list("a = a") + " WHERE a", 1, api.MaxCols},
			{"MIGRATE COPY u FROM t ( " + list("c") + " )", 1, api.MaxCols},
			{"MIGRATE COPY u FROM t ( " + list("c") + " ) CHECK ( c )", 1, api.MaxCols},
		} {
			if c.least <= n && n <= c.most {
				wantParse(t, c.s, c.s)
			} else {
				wantNone(t, c.s)
			}
		}
	}
	wantParse(t, "SELECT * FROM t WHERE "+strings.Repeat("NOT ", 11)+"a", "SELECT * FROM t WHERE "+strings.Repeat("(NOT ", 11)+"a"+strings.Repeat(")", 11))
	wantNone(t, "SELECT * FROM t WHERE "+strings.Repeat("NOT ", 12)+"a")
	wantNone(t, "UPDATE t SET a = "+strings.Repeat("NOT ", 12)+"a")
	wantNone(t, "MIGRATE COPY u FROM t ( c ) CHECK ( "+strings.Repeat("NOT ", 12)+"a )")
}

// piece is a piece of a pattern: a word, or what stands for more; or a group of pieces that stands from least to most times, perhaps with , between.
type piece struct {
	word        string
	group       []piece
	least, most int
	comma       bool
}

// of is a pattern: of words, in a text with blanks between, and of groups. In it name, value, type and expr stand for one of these.
func of(parts ...any) []piece {
	var l []piece
	for _, p := range parts {
		switch x := p.(type) {
		case string:
			for _, w := range strings.Fields(x) {
				l = append(l, piece{word: w})
			}
		case piece:
			l = append(l, x)
		}
	}
	return l
}

func maybe(parts ...any) piece { return piece{group: of(parts...), most: 1} }

func some(most int, parts ...any) piece {
	return piece{group: of(parts...), least: 1, most: most, comma: true}
}

func any8(parts ...any) piece { return piece{group: of(parts...), most: 8} }

// table has the patterns of the chapter's table.
var table = patterns()

func patterns() [][]piece {
	where, check := maybe("WHERE expr"), maybe("CHECK ( expr )")
	return [][]piece{
		of("CREATE TABLE name (", some(8, "name type", maybe("NOT NULL")), ", KEY ( name )", any8(", UNIQUE ( name )"), any8(", REFERENCES ( name ) name"), maybe(", CHECK ( expr )"), ")"),
		of("DROP TABLE name"),
		of("INSERT INTO name VALUES (", some(12, "value"), ")"),
		of("UPDATE name SET", some(8, "name = expr"), where),
		of("DELETE FROM name", where),
		of("SELECT * FROM name", where),
		of("GRANT READ ON name TO name"), of("GRANT WRITE ON name TO name"),
		of("REVOKE READ ON name FROM name"), of("REVOKE WRITE ON name FROM name"),
		of("MIGRATE COPY name FROM name (", some(8, "name"), ")", check),
		of("MIGRATE JOIN name FROM name , name ON name", check),
		of("MIGRATE GROUP name FROM name BY name SUM name", check),
	}
}

// matches: do tokens begin with a pattern, so that what is left of them goes on?
func matches(l []api.Token, p []piece, on func(l []api.Token) bool) bool {
	if len(p) == 0 {
		return on(l)
	}
	next := func(l []api.Token) bool { return matches(l, p[1:], on) }
	if p[0].group != nil {
		return repeats(l, p[0], 0, next)
	}
	for n := 1; n <= len(l); n++ {
		if isPiece(l[:n], p[0].word) && next(l[n:]) {
			return true
		}
		if p[0].word != "expr" && n == 2 {
			break
		}
	}
	return false
}

// repeats: do tokens begin with a group, that stood n times already?
func repeats(l []api.Token, p piece, n int, on func(l []api.Token) bool) bool {
	if n >= p.least && on(l) {
		return true
	}
	if n == p.most {
		return false
	}
	if n > 0 && p.comma {
		if len(l) == 0 || !lexer.Is(l[0], ",") {
			return false
		}
		l = l[1:]
	}
	return matches(l, p.group, func(l []api.Token) bool { return repeats(l, p, n+1, on) })
}

// isPiece: are tokens, all of them, what a pattern's word stands for?
func isPiece(l []api.Token, word string) bool {
	isWord := len(l) == 1 && l[0].Kind == api.Word
	switch word {
	case "name":
		return isWord && !slices.Contains(language(), l[0].S)
	case "type":
		return isWord && slices.Contains([]string{"INT", "TEXT", "BOOL"}, l[0].S)
	case "value":
		sign := ""
		if len(l) == 2 && lexer.Is(l[0], "-") && l[1].Kind == api.Number {
			sign, l = "-", l[1:]
		}
		if len(l) == 1 && l[0].Kind == api.Number {
			_, err := strconv.ParseInt(sign+l[0].S, 10, 64)
			return err == nil
		}
		return isWord && slices.Contains([]string{"NULL", "TRUE", "FALSE"}, l[0].S) || len(l) == 1 && l[0].Kind == api.String
	case "expr":
		_, n, e := expr.Parse(l)
		return e == api.OK && n == len(l)
	}
	return len(l) == 1 && lexer.Is(l[0], word)
}

// isStatement: are tokens a statement's, told another way than in Parse: by patterns?
func isStatement(l []api.Token) bool {
	return slices.ContainsFunc(table, func(p []piece) bool {
		return matches(l, p, func(l []api.Token) bool { return len(l) == 0 })
	})
}

// wantMatched tells where Parse and the patterns are not at one. What is parsed must have the same tokens, but for those that layer 4 writes otherwise.
func wantMatched(t *testing.T, l []api.Token) bool {
	t.Helper()
	s, e := lexer.Join(l)
	if e != api.OK {
		t.Fatalf("Join: %d", e)
	}
	got, e := stmt.Parse(s)
	if want := isStatement(l); (e == api.OK) != want || e != api.OK && e != api.ErrParse {
		t.Fatalf("Parse(%s): %s, %d, want %v", s, told(got), e, want)
	}
	if e == api.OK && bare(cut(t, wantMay(t, got))) != bare(l) {
		t.Fatalf("Parse(%s): %s", s, told(got))
	}
	return e == api.OK
}

// bare is tokens as they are written, without brackets, noughts ahead of numbers, and - ahead of 0.
func bare(l []api.Token) string {
	var s []string
	for _, x := range l {
		switch {
		case lexer.Is(x, "("), lexer.Is(x, ")"):
		case x.Kind == api.Number:
			x.S = strings.TrimLeft(x.S, "0")
			if n := len(s) - 1; x.S == "" && n >= 0 && s[n] == "4:-" {
				s = s[:n]
			}
			fallthrough
		default:
			s = append(s, strconv.Itoa(x.Kind)+":"+x.S)
		}
	}
	return strings.Join(s, " ")
}

// vocabulary are the words of the language, signs, and one of each other token.
func vocabulary(t *testing.T) []api.Token {
	return cut(t, strings.Join(language(), " ")+" ( ) , = < + - * x 7 's' 'NULL'")
}

// P5.1: each statement's text with a token too many, too few, or another one.
func TestParseNear(t *testing.T) {
	words := vocabulary(t)
	for _, s := range texts() {
		l := cut(t, s)
		if len(l) > 60 {
			continue
		}
		if !wantMatched(t, l) {
			t.Fatalf("Parse(%s)", s)
		}
		for i := range len(l) + 1 {
			wantMatched(t, slices.Clone(l[:i]))
			wantMatched(t, slices.Clone(l[i:]))
			for _, w := range words {
				wantMatched(t, slices.Insert(slices.Clone(l), i, w))
				if i < len(l) {
					wantMatched(t, slices.Replace(slices.Clone(l), i, i+1, w))
				}
			}
			for j := i + 1; j <= len(l); j++ {
				wantMatched(t, slices.Delete(slices.Clone(l), i, j))
			}
			if i < len(l) {
				wantMatched(t, slices.Insert(slices.Clone(l), i, l[i]))
			}
			if i+1 < len(l) {
				swapped := slices.Clone(l)
				swapped[i], swapped[i+1] = l[i+1], l[i]
				wantMatched(t, swapped)
			}
		}
	}
}

// P5.1: of all lists of tokens that are short, by what they begin with.
func TestParseAll(t *testing.T) {
	for _, c := range []struct {
		ahead, words string
		most         int
	}{
		{"", "DROP TABLE t SELECT * FROM DELETE", 5}, {"", "GRANT READ WRITE ON TO r", 6}, {"", "REVOKE READ ON FROM r", 6},
		{"SELECT * FROM t", "WHERE a = ( ) NOT 1", 5}, {"INSERT INTO t", "VALUES ( ) , 1 - a", 5}, {"INSERT INTO t VALUES (", "NULL 's' ) , (", 6}, {"UPDATE t", "SET a = , WHERE 1", 6}, {"UPDATE t SET a = 1", "a = , WHERE 1", 6},
		{"CREATE TABLE t ( k INT", "NOT NULL , KEY ( k )", 6}, {"CREATE TABLE t ( k INT ,", "NOT NULL , KEY ( k )", 5}, {"CREATE TABLE t ( k INT , KEY ( k )", ", UNIQUE CHECK ( ) k", 6}, {"CREATE TABLE t ( k INT , KEY ( k ) , REFERENCES", "( ) , UNIQUE REFERENCES k", 6},
		{"MIGRATE", "COPY u FROM ( )", 7}, {"MIGRATE COPY u FROM t", "c ( ) , CHECK", 7}, {"MIGRATE JOIN u FROM", "t , ON CHECK ( )", 6}, {"MIGRATE JOIN u FROM t , r ON", "c CHECK ( ) ,", 6}, {"MIGRATE GROUP u FROM t", "BY c SUM CHECK ( )", 6},
	} {
		words, met := cut(t, c.words), 0
		now := [][]api.Token{cut(t, c.ahead)}
		for range c.most {
			var longer [][]api.Token
			for _, l := range now {
				for _, w := range words {
					longer = append(longer, append(slices.Clone(l), w))
				}
			}
			for _, l := range longer {
				if wantMatched(t, l) {
					met++
				}
			}
			now = longer
		}
		if met == 0 {
			t.Errorf("behind %s no statement was met", c.ahead)
		}
	}
}

// P5.1, R1: texts that are very long.
func TestParseMany(t *testing.T) {
	n := 1 << 16
	for _, s := range []string{
		strings.Repeat("DROP TABLE t ", n), strings.Repeat("(", n), "SELECT * FROM t WHERE " + strings.Repeat("(", n), "SELECT * FROM t WHERE " + strings.Repeat("NOT ", n) + "a", "INSERT INTO t VALUES (" + strings.Repeat("1,", n) + "1)", "DROP TABLE " + strings.Repeat("t", n), "INSERT INTO t VALUES ('" + strings.Repeat("a", n) + "')", "INSERT INTO t VALUES ('" + strings.Repeat("''", n), "INSERT INTO t VALUES (" + strings.Repeat("9", n) + ")", "CREATE TABLE t (" + strings.Repeat("k INT,", n) + "KEY (k))", strings.Repeat("\x00", n), strings.Repeat("MIGRATE ", 400), strings.Repeat("CREATE TABLE t ( ", 100), strings.Repeat(", ", 400), strings.Repeat("( ", 400),
		"INSERT INTO t VALUES " + strings.Repeat("( ", 390), "SELECT * FROM t WHERE " + strings.Repeat("( ", 390), "CREATE TABLE t ( " + strings.Repeat("k INT , ", 130), "UPDATE t SET " + strings.Repeat("a = a , ", 99), "UPDATE t SET " + strings.Repeat("a = a , ", 98) + "a = a",
	} {
		wantNone(t, s)
	}
	wantParse(t, strings.Repeat(" \n", n)+"DROP"+strings.Repeat("\n", n)+"TABLE t"+strings.Repeat(" ", n), "DROP TABLE t")
}

// R3, and the language's rule 7: what is parsed shares no list with what is parsed again.
func TestParseNew(t *testing.T) {
	for _, s := range texts() {
		a, _ := stmt.Parse(s)
		for _, p := range names(&a) {
			*p = "z"
		}
		for i := range a.Row {
			a.Row[i] = text("z")
		}
		for i := range a.Cols {
			a.Cols[i].Type = 9
		}
		for _, p := range exprs(&a) {
			for i := range p.L {
				p.L[i] = col("z")
			}
		}
		if b, e := stmt.Parse(s); e != api.OK || !stmt.Same(b, good()[s]) {
			t.Errorf("Parse(%s) shares: %s, %d", s, told(b), e)
		}
	}
}
