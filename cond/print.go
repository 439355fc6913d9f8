package cond

import (
	"strconv"
	"strings"

	"sentry/api"
)

// writer writes signs, with the blanks between them.
type writer struct {
	strings.Builder
	tight bool // no blank stands ahead of the next sign
	depth int
	deep  bool // brackets stood too deep
}

// Print writes a condition.
func Print(c api.Cond) (string, api.Errno) {
	if !sound(c) {
		return "", api.ErrForm
	}
	w := &writer{tight: true}
	w.cond(c, ofOr)
	if w.deep || w.Len() > longest {
		return "", api.ErrForm
	}
	return w.String(), api.OK
}

func (w *writer) sign(s string) {
	if !w.tight && s != ")" && s != "]" && s != "," {
		w.WriteByte(' ')
	}
	w.WriteString(s)
	w.tight = s == "(" || s == "["
}

// rank tells how much a condition binds, as it is written.
func rank(c api.Cond) int {
	switch c.Kind {
	case api.IsOr:
		return ofOr
	case api.IsAnd:
		return ofAnd
	case api.IsNot:
		if isNotEq(c) {
			return ofHeld
		}
		return ofNot
	case api.IsEq, api.IsLess, api.IsMost, api.IsIn:
		return ofHeld
	case api.IsPlus, api.IsMinus:
		return ofSum
	case api.IsTimes:
		return ofTimes
	}
	return ofUnit
}

func isNotEq(c api.Cond) bool { return c.Kind == api.IsNot && c.Parts[0].Kind == api.IsEq }

// cond writes a condition where one of a rank may stand: one that binds less needs brackets.
func (w *writer) cond(c api.Cond, least int) {
	if rank(c) >= least {
		w.bare(c)
		return
	}
	w.depth++
	w.deep = w.deep || w.depth > api.MaxDepth
	w.sign("(")
	w.bare(c)
	w.sign(")")
	w.depth--
}

func (w *writer) bare(c api.Cond) {
	switch c.Kind {
	case api.IsTrue:
		w.sign("true")
	case api.IsFalse:
		w.sign("false")
	case api.IsNum:
		w.sign(strconv.FormatInt(c.N, 10))
	case api.IsText:
		w.sign("'" + c.S + "'")
	case api.IsName:
		w.sign(c.S)
	case api.IsOr:
		w.row(c.Parts, "or", ofAnd)
	case api.IsAnd:
		w.row(c.Parts, "and", ofNot)
	case api.IsNot:
		w.not(c)
	case api.IsIn:
		w.cond(c.Parts[0], ofSum)
		w.sign("in")
		w.sign("[")
		w.row(c.Parts[1:], ",", ofSum)
		w.sign("]")
	default:
		w.two(c.Parts, c.Kind)
	}
}

func (w *writer) row(l []api.Cond, mark string, least int) {
	for i, c := range l {
		if i > 0 {
			w.sign(mark)
		}
		w.cond(c, least)
	}
}

func (w *writer) not(c api.Cond) {
	if isNotEq(c) {
		w.join(c.Parts[0].Parts, "!=", ofSum, ofSum)
		return
	}
	w.sign("not")
	w.cond(c.Parts[0], ofNot)
}

// two writes what has two sides.
func (w *writer) two(l []api.Cond, kind int) {
	switch kind {
	case api.IsEq:
		w.join(l, "=", ofSum, ofSum)
	case api.IsLess:
		w.join(l, "<", ofSum, ofSum)
	case api.IsMost:
		w.join(l, "<=", ofSum, ofSum)
	case api.IsPlus:
		w.join(l, "+", ofSum, ofTimes)
	case api.IsMinus:
		w.join(l, "-", ofSum, ofTimes)
	case api.IsTimes:
		w.join(l, "*", ofTimes, ofUnit)
	}
}

func (w *writer) join(l []api.Cond, mark string, left, right int) {
	w.cond(l[0], left)
	w.sign(mark)
	w.cond(l[1], right)
}
