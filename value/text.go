package value

import (
	"strconv"
	"strings"

	"caddis/api"
)

// Text is a value's text.
func Text(v api.Value) string {
	if !May(v) {
		return ""
	}
	switch v.Kind {
	case api.Int:
		return strconv.FormatInt(v.I, 10)
	case api.Text:
		return "'" + strings.ReplaceAll(v.S, "'", "''") + "'"
	case api.Bool:
		if v == truth(true) {
			return "TRUE"
		}
		return "FALSE"
	}
	return "NULL"
}

// Parse is a text's value.
func Parse(s string) (api.Value, api.Errno) {
	// Each value has one text: whatever the guess made of another one, it is not written so.
	if v := guess(s); Text(v) == s {
		return v, api.OK
	}
	return api.Value{}, api.ErrForm
}

// guess is the only value whose text s may be: NULL, if it looks like no other one.
func guess(s string) api.Value {
	switch {
	case s == "TRUE":
		return truth(true)
	case s == "FALSE":
		return truth(false)
	case len(s) >= 2 && s[0] == '\'':
		return api.Value{Kind: api.Text, S: strings.ReplaceAll(s[1:len(s)-1], "''", "'")}
	}
	n, err := strconv.ParseInt(s, 10, 64)
	if err != nil {
		return api.Value{}
	}
	return api.Value{Kind: api.Int, I: n}
}
