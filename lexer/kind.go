package lexer

import (
	"strings"

	"caddis/api"
	"caddis/value"
)

const (
	quote     = '\'' // stands at either end of a String, and twice for each that it means
	maxDigits = 19   // of a Number
)

// kind is a kind of token that its octets alone tell: all kinds but a String.
type kind struct {
	number int
	most   int               // octets of one
	begins func(o byte) bool // may one begin with the octet?
	goes   func(o byte) bool // may one go on with it?
}

func wordKind() kind { return kind{api.Word, api.MaxName, letter, inWord} }

func numberKind() kind { return kind{api.Number, maxDigits, digit, digit} }

func signKind() kind { return kind{api.Sign, 1, isSign, none} }

// kinds are all kinds of token but a String: no two of them begin with one octet.
func kinds() [3]kind { return [...]kind{wordKind(), numberKind(), signKind()} }

// together is how many octets at the beginning of s stand together as one of the kind; 0, if none begins there.
func (k kind) together(s string) int {
	if s == "" || !k.begins(s[0]) {
		return 0
	}
	n := 1
	for n < len(s) && k.goes(s[n]) {
		n++
	}
	return n
}

// may: may one of the kind be s?
func (k kind) may(s string) bool {
	return s != "" && len(s) <= k.most && k.together(s) == len(s)
}

func letter(o byte) bool { return 'a' <= o && o <= 'z' || 'A' <= o && o <= 'Z' }

func digit(o byte) bool { return '0' <= o && o <= '9' }

func inWord(o byte) bool { return letter(o) || digit(o) || o == '_' }

func isSign(o byte) bool { return strings.IndexByte("(),=<+-*", o) >= 0 }

func none(byte) bool { return false }

// first is the token with which s, that is not empty, begins, and how many octets it takes; none, and 0, if it begins with none.
func first(s string) (api.Token, int) {
	if s[0] == quote {
		return firstString(s)
	}
	for _, k := range kinds() {
		n := k.together(s)
		// Octets that stand together are one token, or none: what is too long is not cut in two.
		if k.may(s[:n]) {
			return api.Token{Kind: k.number, S: s[:n]}, n
		}
	}
	return api.Token{}, 0
}

// firstString is likewise of an s that begins with a quote.
func firstString(s string) (api.Token, int) {
	n := quoted(s)
	// Of a String that is not ended nothing is left here, which is no value's text either.
	v, e := value.Parse(s[:n])
	if e != api.OK {
		return api.Token{}, 0
	}
	return api.Token{Kind: api.String, S: v.S}, n
}

// quoted is how many octets there are from the quote with which s begins up to the one that ends it; 0, if none does.
func quoted(s string) int {
	for n := 1; ; n++ {
		i := strings.IndexByte(s[n:], quote)
		if i < 0 {
			return 0
		}
		n += i + 1
		// Two quotes are one that is meant: the second one ends nothing.
		if n == len(s) || s[n] != quote {
			return n
		}
	}
}
