package cond

import (
	"strings"

	"sentry/tuple"
)

// Kinds of signs.
const (
	endSign = iota
	badSign
	markSign // what joins, and brackets
	numberSign
	textSign
	nameSign
)

// sign is a sign of a text: where it begins, and where it ends.
type sign struct {
	kind    int
	text    string
	at, end int
}

func isDigit(c byte) bool { return '0' <= c && c <= '9' }

// isLetter asks whether a name of a condition may have that byte.
func isLetter(c byte) bool { return c != '-' && tuple.IsName(string(c)) }

// isPlain asks whether a text may stand between two quotes.
func isPlain(s string) bool {
	for _, c := range []byte(s) {
		if c < 32 || c > 126 || c == '\'' {
			return false
		}
	}
	return true
}

// isName asks whether a text is a name that a condition may have.
func isName(s string) bool {
	g := scan(s, 0)
	return g.kind == nameSign && g.text == s
}

// scan reads the sign that stands at a place, or behind the blanks there.
func scan(s string, at int) sign {
	for at < len(s) && s[at] == ' ' {
		at++
	}
	if at == len(s) {
		return sign{kind: endSign, at: at, end: at}
	}
	kind, n := badSign, 1
	switch c := s[at]; {
	case isDigit(c):
		n = run(s[at:], isDigit)
		kind = kindOfDigits(s[at : at+n])
	case isLetter(c):
		n = run(s[at:], isLetter)
		kind = kindOfWord(s[at : at+n])
	case c == '\'':
		i := strings.IndexByte(s[at+1:], '\'')
		if i >= 0 && isPlain(s[at+1:at+1+i]) {
			return sign{textSign, s[at+1 : at+1+i], at, at + i + 2}
		}
	case strings.HasPrefix(s[at:], "!="), strings.HasPrefix(s[at:], "<="), strings.HasPrefix(s[at:], ">="):
		kind, n = markSign, 2
	case strings.IndexByte("=<>+-*,()[]", c) >= 0:
		kind = markSign
	}
	return sign{kind, s[at : at+n], at, at + n}
}

// run is how many first bytes are of a sort.
func run(s string, is func(byte) bool) int {
	n := 0
	for n < len(s) && is(s[n]) {
		n++
	}
	return n
}

func kindOfDigits(s string) int {
	if s[0] == '0' && len(s) > 1 || len(s) > 16 || number(s) > largest {
		return badSign
	}
	return numberSign
}

// number is what at most sixteen digits say.
func number(s string) int64 {
	n := int64(0)
	for _, c := range []byte(s) {
		n = 10*n + int64(c-'0')
	}
	return n
}

func kindOfWord(s string) int {
	switch s {
	case "and", "or", "not", "in", "true", "false":
		return markSign
	}
	if !tuple.IsName(s) {
		return badSign
	}
	return nameSign
}
