package console

import (
	"strconv"
	"strings"

	"sentry/api"
	"sentry/tuple"
)

const (
	longNumber = 18 // digits of a number, at most
	longValue  = 15 // digits of an argument's value, at most
)

// digits reads what is nothing but digits, at most so many.
func digits(s string, most int) (uint64, bool) {
	for _, c := range []byte(s) {
		if c < '0' || c > '9' {
			return 0, false
		}
	}
	if s == "" || len(s) > most {
		return 0, false
	}
	n, err := strconv.ParseUint(s, 10, 64)
	return n, err == nil
}

// rev reads a revision: digits, or "head".
func (c *Console) rev(s string) (uint64, bool) {
	if s == "head" {
		return c.service.Head(), true
	}
	return digits(s, longNumber)
}

// object reads a point's text: that of a tuple, up to its subject.
func object(s string) (api.Point, bool) {
	t, e := tuple.Parse(s + "@x:x")
	return api.Point{Obj: t.Obj, Rel: t.Rel}, e == api.OK
}

// subject reads a subject's text: that of a tuple, from its subject on.
func subject(s string) (api.Sub, bool) {
	t, e := tuple.Parse("x:x#x@" + s)
	return t.Sub, e == api.OK
}

// ask reads a tuple's text, and a revision.
func (c *Console) ask(words []string) (api.Ask, uint64, bool) {
	t, e := tuple.Parse(words[0])
	rev, ok := c.rev(words[1])
	return api.Ask{Point: api.Point{Obj: t.Obj, Rel: t.Rel}, Sub: t.Sub}, rev, ok && e == api.OK
}

// value reads an argument's value.
func value(s string) (api.Val, bool) {
	switch s {
	case "true":
		return api.Val{Kind: api.Flag, N: 1}, true
	case "false":
		return api.Val{Kind: api.Flag}, true
	}
	if n := len(s); n >= 2 && s[0] == '\'' && s[n-1] == '\'' {
		return api.Val{Kind: api.Text, S: s[1 : n-1]}, true
	}
	size, below := strings.CutPrefix(s, "-")
	n, ok := digits(size, longValue)
	if !ok {
		return api.Val{}, false
	}
	if below {
		return api.Val{Kind: api.Num, N: -int64(n)}, true
	}
	return api.Val{Kind: api.Num, N: int64(n)}, true
}

// batch reads what is to be written, and what has to hold for it.
func batch(words []string) ([]api.Write, []api.Pre, bool) {
	var l []api.Write
	var pre []api.Pre
	for _, w := range words {
		t, e := tuple.Parse(w[1:])
		if e != api.OK {
			return nil, nil, false
		}
		switch w[0] {
		case '+', '-':
			l = append(l, api.Write{Del: w[0] == '-', Tuple: t})
		case '?', '!':
			pre = append(pre, api.Pre{Not: w[0] == '!', Tuple: t})
		default:
			return nil, nil, false
		}
	}
	return l, pre, true
}
