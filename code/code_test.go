package code_test

import (
	"cmp"
	"slices"
	"strings"
	"testing"

	"caddis/api"
	"caddis/code"
	"caddis/value"
)

const (
	most  = 1<<63 - 1
	least = -1 << 63
)

var (
	null = api.Value{}
	no   = api.Value{Kind: api.Bool}
	yes  = api.Value{Kind: api.Bool, I: 1}
)

func num(n int64) api.Value { return api.Value{Kind: api.Int, I: n} }

func text(s string) api.Value { return api.Value{Kind: api.Text, S: s} }

func repeat(v api.Value, n int) []api.Value { return slices.Repeat([]api.Value{v}, n) }

// laid is a value, and its octets as the chapter tells them.
type laid struct {
	v api.Value
	s string
}

// rising has values that may be, each ahead of the next one, with their octets.
func rising() []laid {
	a := strings.Repeat("~", 39)
	return []laid{
		{null, "\x00"},
		{num(least), "\x01\x00\x00\x00\x00\x00\x00\x00\x00"},
		{num(least + 1), "\x01\x00\x00\x00\x00\x00\x00\x00\x01"},
		{num(-1 << 32), "\x01\x7f\xff\xff\xff\x00\x00\x00\x00"},
		{num(-256), "\x01\x7f\xff\xff\xff\xff\xff\xff\x00"},
		{num(-2), "\x01\x7f\xff\xff\xff\xff\xff\xff\xfe"},
		{num(-1), "\x01\x7f\xff\xff\xff\xff\xff\xff\xff"},
		{num(0), "\x01\x80\x00\x00\x00\x00\x00\x00\x00"},
		{num(1), "\x01\x80\x00\x00\x00\x00\x00\x00\x01"},
		{num(5), "\x01\x80\x00\x00\x00\x00\x00\x00\x05"},
		{num(255), "\x01\x80\x00\x00\x00\x00\x00\x00\xff"},
		{num(256), "\x01\x80\x00\x00\x00\x00\x00\x01\x00"},
		{num(0x0102030405060708), "\x01\x81\x02\x03\x04\x05\x06\x07\x08"},
		{num(most - 1), "\x01\xff\xff\xff\xff\xff\xff\xff\xfe"},
		{num(most), "\x01\xff\xff\xff\xff\xff\xff\xff\xff"},
		{text(""), "\x02\x00"},
		{text(" "), "\x02 \x00"},
		{text("'"), "\x02'\x00"},
		{text("a"), "\x02a\x00"},
		{text("a "), "\x02a \x00"},
		{text("ab"), "\x02ab\x00"},
		{text("b"), "\x02b\x00"},
		{text("~"), "\x02~\x00"},
		{text(a), "\x02" + a + "\x00"},
		{text(a + "~"), "\x02" + a + "~\x00"},
		{no, "\x03\x00"},
		{yes, "\x03\x01"},
	}
}

// strange has values that may not be.
func strange() []api.Value {
	return []api.Value{
		{I: 1}, {S: "a"}, {Kind: api.Int, S: "a"}, {Kind: api.Int, I: 5, S: "5"},
		{Kind: api.Text, I: 1}, text(strings.Repeat("a", 41)), text("\x1f"), text("\x7f"), text("\xff"), text("a\x00"), text("\x00"), text("é"), text("a\n"),
		{Kind: api.Bool, I: 2}, {Kind: api.Bool, I: -1}, {Kind: api.Bool, I: 256}, {Kind: api.Bool, S: "a"},
		{Kind: 4}, {Kind: -1}, {Kind: 256}, {Kind: 257}, {Kind: 259, I: 1}, {Kind: most}, {Kind: least},
	}
}

// P2.1
func TestValue(t *testing.T) {
	for _, c := range rising() {
		if got := code.Value(c.v); got != c.s {
			t.Errorf("Value(%v): %q, want %q", c.v, got, c.s)
		}
	}
	for _, v := range strange() {
		if got := code.Value(v); got != "\x00" {
			t.Errorf("Value(%v), that may not be: %q", v, got)
		}
	}
}

// P2.1
func TestRow(t *testing.T) {
	var every []api.Value
	want := ""
	for _, c := range rising()[15:] {
		every, want = append(every, c.v), want+c.s
	}
	long := text(strings.Repeat("~", 40))
	for _, c := range []struct {
		l []api.Value
		s string
	}{
		{nil, ""}, {[]api.Value{}, ""},
		{[]api.Value{null}, "\x00"},
		{[]api.Value{num(5), text("a"), null, yes}, "\x01\x80\x00\x00\x00\x00\x00\x00\x05\x02a\x00\x00\x03\x01"},
		{[]api.Value{text(""), text("")}, "\x02\x00\x02\x00"},
		{every, want},
		{repeat(null, 12), strings.Repeat("\x00", 12)},
		{repeat(long, 12), strings.Repeat("\x02"+long.S+"\x00", 12)},
	} {
		before := slices.Clone(c.l)
		if got, e := code.Row(c.l); got != c.s || e != api.OK {
			t.Errorf("Row(%v): %q, %d, want %q", c.l, got, e, c.s)
		}
		if !slices.Equal(c.l, before) {
			t.Errorf("Row changed %v to %v", before, c.l)
		}
	}
}

// P2.1
func TestRowWrong(t *testing.T) {
	wrong := [][]api.Value{repeat(null, 13), repeat(num(1), 13), repeat(null, 1<<12), repeat(strange()[0], 13)}
	for _, v := range strange() {
		wrong = append(wrong, []api.Value{v}, []api.Value{v, num(1)}, []api.Value{num(1), v}, append(repeat(yes, 11), v))
	}
	for _, l := range wrong {
		if got, e := code.Row(l); got != "" || e != api.ErrArg {
			t.Errorf("Row(%v): %q, %d", l, got, e)
		}
	}
}

// P2.2: a value takes as many octets as it has, whatever stands behind.
func TestFirst(t *testing.T) {
	for _, c := range rising() {
		for _, behind := range []string{"", "\x00", "\x01", "\x02a", "\x03\x01", "\x04", "\xff\xff", "a\x00", strings.Repeat("\x00", 50)} {
			if v, n, e := code.First(c.s + behind); v != c.v || n != len(c.s) || e != api.OK {
				t.Errorf("First(%q + %q): %v, %d, %d", c.s, behind, v, n, e)
			}
		}
	}
}

// P2.2: octets that end ahead of a value's end.
func TestFirstShort(t *testing.T) {
	short := []string{
		"", "\x01", "\x02", "\x03",
		"\x02\x01", "\x02\x1f", "\x02\x7f", "\x02\xff", "\x02a\xffb", "\x02é",
		"\x02" + strings.Repeat("a", 40), "\x02" + strings.Repeat("a", 41), "\x02" + strings.Repeat("\x02", 1<<16),
	}
	for _, c := range rising() {
		for n := range len(c.s) {
			short = append(short, c.s[:n])
		}
	}
	for _, s := range short {
		if v, n, e := code.First(s); v != null || n != 0 || e != api.ErrShort {
			t.Errorf("First(%q): %v, %d, %d", s, v, n, e)
		}
	}
}

// P2.2: octets that no value has.
func TestFirstForm(t *testing.T) {
	form := []string{
		"\x03\x02", "\x03\x03", "\x03\x80", "\x03\xff", "\x03\x02\x01",
		"\x02\x01\x00", "\x02\n\x00", "\x02\x1f\x00", "\x02\x7f\x00", "\x02\x80\x00", "\x02\xff\x00", "\x02a\x1fb\x00", "\x02aé\x00", "\x02\ufffd\x00",
		"\x02" + strings.Repeat("a", 41) + "\x00", "\x02" + strings.Repeat("a", 1<<16) + "\x00", "\x02" + strings.Repeat("a", 41) + "\x00\x02a\x00",
	}
	for k := 4; k < 256; k++ {
		form = append(form, string([]byte{byte(k)}), string([]byte{byte(k), 0}), string([]byte{byte(k), 1, 2, 3, 4, 5, 6, 7, 8, 9}))
	}
	for _, s := range form {
		if v, n, e := code.First(s); v != null || n != 0 || e != api.ErrForm {
			t.Errorf("First(%q): %v, %d, %d", s, v, n, e)
		}
	}
}

// P2.2
func TestRead(t *testing.T) {
	for _, l := range [][]api.Value{
		nil, {null}, {yes}, {num(least), num(most)}, {text(""), text("a"), text("")}, {num(5), text("it's"), null, no},
		repeat(null, 12), repeat(num(-1), 12), repeat(text(strings.Repeat("a", 40)), 12),
	} {
		s := ""
		for _, v := range l {
			s += code.Value(v)
		}
		if got, e := code.Read(s); !slices.Equal(got, l) || e != api.OK {
			t.Errorf("Read(%q): %v, %d, want %v", s, got, e, l)
		}
	}
}

// P2.2: the first error of a value goes ahead of that there are too many.
func TestReadWrong(t *testing.T) {
	for _, c := range []struct {
		s string
		e api.Errno
	}{
		{"\x01", api.ErrShort}, {"\x02", api.ErrShort}, {"\x03", api.ErrShort}, {"\x02ab", api.ErrShort}, {"\x00\x00\x01\x00", api.ErrShort}, {"\x02a\x00\x02a", api.ErrShort},
		{"\x04", api.ErrForm}, {"\x00\xff", api.ErrForm}, {"\x03\x02", api.ErrForm}, {"\x02\x01\x00", api.ErrForm}, {"\x02" + strings.Repeat("a", 41) + "\x00", api.ErrForm},
		{"\x00\x04\x01", api.ErrForm}, {"\x03\x02\x02", api.ErrForm}, {"\x02\xff\x00\x01", api.ErrForm}, {"\x02a\x01\x04", api.ErrShort}, {"\x01\x04\x04", api.ErrShort},
		{strings.Repeat("\x00", 11) + "\x01", api.ErrShort}, {strings.Repeat("\x00", 12) + "\x04", api.ErrForm},
		{strings.Repeat("\x00", 13), api.ErrForm}, {strings.Repeat("\x03\x01", 13), api.ErrForm}, {strings.Repeat("\x00", 1<<16), api.ErrForm},
		{strings.Repeat("\x00", 12) + "\x01", api.ErrShort}, {strings.Repeat("\x00", 13) + "\x01", api.ErrShort}, {strings.Repeat("\x00", 14) + "\x02\xff", api.ErrShort},
		{strings.Repeat("\x00", 1<<12) + "\x03", api.ErrShort}, {strings.Repeat("\x00", 13) + "\x04\x01", api.ErrForm},
	} {
		if l, e := code.Read(c.s); len(l) != 0 || e != c.e {
			t.Errorf("Read(%q): %v, %d, want %d", c.s, l, e, c.e)
		}
	}
}

// P2.2: of all octets that are few, and of few sorts, what is read is what is laid so.
func TestAllOctets(t *testing.T) {
	const sorts = "\x00\x01\x02\x03\x04 a~\x7f\xff"
	now := []string{""}
	for range 5 {
		var longer []string
		for _, s := range now {
			for i := range len(sorts) {
				longer = append(longer, s+sorts[i:i+1])
			}
			if l, e := code.Read(s); e == api.OK {
				if back, e := code.Row(l); back != s || e != api.OK {
					t.Errorf("Read(%q): %v, of which Row is %q, %d", s, l, back, e)
				}
			} else if len(l) != 0 || (e != api.ErrShort && e != api.ErrForm) {
				t.Errorf("Read(%q): %v, %d", s, l, e)
			}
			v, n, e := code.First(s)
			if e == api.OK && (n > len(s) || code.Value(v) != s[:n]) || e != api.OK && (v != null || n != 0) {
				t.Errorf("First(%q): %v, %d, %d", s, v, n, e)
			}
		}
		now = longer
	}
}

// P2.3: the octets' order is that of the values.
func TestOrder(t *testing.T) {
	l := rising()
	for i, a := range l {
		for j, b := range l {
			s, r := code.Value(a.v), code.Value(b.v)
			if cmp.Compare(i, j) != strings.Compare(s, r) || value.Order(a.v, b.v) != strings.Compare(s, r) {
				t.Errorf("Value(%v): %q; Value(%v): %q", a.v, s, b.v, r)
			}
		}
	}
}

// P2.3: of rows of as many values the first one in which they differ tells; each is read as it was.
func TestOrderOfRows(t *testing.T) {
	some := []api.Value{null, num(least), num(-1), num(0), num(most), text(""), text("a"), text("a "), text("ab"), no, yes}
	var rows [][]api.Value
	for _, a := range some {
		for _, b := range some {
			rows = append(rows, []api.Value{a, b}, []api.Value{b, a})
		}
	}
	for _, a := range rows {
		s, e := code.Row(a)
		if l, f := code.Read(s); e != api.OK || f != api.OK || !slices.Equal(l, a) {
			t.Errorf("Row(%v): %q, %d; Read: %v, %d", a, s, e, l, f)
		}
		for _, b := range rows {
			r, e := code.Row(b)
			if want := slices.CompareFunc(a, b, value.Order); e != api.OK || strings.Compare(s, r) != want {
				t.Errorf("Row(%v): %q; Row(%v): %q, %d, want %d", a, s, b, r, e, want)
			}
		}
	}
}

// P2.3: what behaves alike for one number does so for each power of 2, and its neighbours.
func TestNumbers(t *testing.T) {
	var l []int64
	for i := range 64 {
		n := int64(1) << i
		l = append(l, n-1, n, n+1, -n-1, -n, -n+1)
	}
	slices.Sort(l)
	l = slices.Compact(l)
	for i, n := range l {
		s := code.Value(num(n))
		if v, k, e := code.First(s); v != num(n) || k != 9 || e != api.OK {
			t.Errorf("First(Value(%d)): %v, %d, %d", n, v, k, e)
		}
		if i > 0 && code.Value(num(l[i-1])) >= s {
			t.Errorf("the octets of %d are not ahead of those of %d", l[i-1], n)
		}
	}
}
