package cond

import (
	"sentry/api"
)

// parser goes through a text sign by sign.
type parser struct {
	text  string
	sign  sign
	depth int
	bad   bool
	place int // of the first sign that can't stand where it stands
}

// Parse reads a condition.
func Parse(s string) (api.Cond, int, api.Errno) {
	if len(s) > longest {
		return api.Cond{}, 0, api.ErrLong
	}
	p := &parser{text: s}
	p.next()
	c := p.or()
	if p.sign.kind != endSign {
		p.fail(p.sign.at)
	}
	if p.bad {
		return api.Cond{}, p.place, api.ErrForm
	}
	if Size(c) > api.MaxParts {
		return api.Cond{}, 0, api.ErrLong
	}
	return c, 0, api.OK
}

func (p *parser) next() { p.sign = scan(p.text, p.sign.end) }

// fail keeps the first place at which something is wrong; nothing is taken behind it.
func (p *parser) fail(at int) {
	if !p.bad {
		p.bad, p.place = true, at
	}
}

// take goes over a mark, if it stands there.
func (p *parser) take(mark string) bool {
	if p.bad || p.sign.kind != markSign || p.sign.text != mark {
		return false
	}
	p.next()
	return true
}

// want goes over a mark, which has to stand there.
func (p *parser) want(mark string) {
	if !p.take(mark) {
		p.fail(p.sign.at)
	}
}

func two(kind int, a, b api.Cond) api.Cond {
	return api.Cond{Kind: kind, Parts: []api.Cond{a, b}}
}

func (p *parser) or() api.Cond { return p.row("or", api.IsOr, p.and) }

func (p *parser) and() api.Cond { return p.row("and", api.IsAnd, p.not) }

// row reads what stands between marks; what is of the row's own kind stood in brackets, and gives its parts.
func (p *parser) row(mark string, kind int, step func() api.Cond) api.Cond {
	var parts []api.Cond
	for more := true; more; more = p.take(mark) {
		c := step()
		if c.Kind == kind {
			parts = append(parts, c.Parts...)
		} else {
			parts = append(parts, c)
		}
	}
	if len(parts) == 1 {
		return parts[0]
	}
	return api.Cond{Kind: kind, Parts: parts}
}

func (p *parser) not() api.Cond {
	if p.take("not") {
		return api.Cond{Kind: api.IsNot, Parts: []api.Cond{p.not()}}
	}
	return p.held()
}

func (p *parser) held() api.Cond {
	a := p.sum()
	switch {
	case p.take("="):
		return two(api.IsEq, a, p.sum())
	case p.take("!="):
		return api.Cond{Kind: api.IsNot, Parts: []api.Cond{two(api.IsEq, a, p.sum())}}
	case p.take("<"):
		return two(api.IsLess, a, p.sum())
	case p.take("<="):
		return two(api.IsMost, a, p.sum())
	case p.take(">"):
		return two(api.IsLess, p.sum(), a)
	case p.take(">="):
		return two(api.IsMost, p.sum(), a)
	case p.take("in"):
		return p.in(a)
	}
	return a
}

// in reads a list, in which a may be.
func (p *parser) in(a api.Cond) api.Cond {
	p.want("[")
	c := api.Cond{Kind: api.IsIn, Parts: []api.Cond{a, p.sum()}}
	for p.take(",") {
		c.Parts = append(c.Parts, p.sum())
	}
	p.want("]")
	return c
}

func (p *parser) sum() api.Cond {
	c := p.times()
	for {
		switch {
		case p.take("+"):
			c = two(api.IsPlus, c, p.times())
		case p.take("-"):
			c = two(api.IsMinus, c, p.times())
		default:
			return c
		}
	}
}

func (p *parser) times() api.Cond {
	c := p.unit()
	for p.take("*") {
		c = two(api.IsTimes, c, p.unit())
	}
	return c
}

func (p *parser) unit() api.Cond {
	if p.bad {
		return api.Cond{}
	}
	switch g := p.sign; g.kind {
	case numberSign:
		p.next()
		return api.Cond{Kind: api.IsNum, N: number(g.text)}
	case textSign:
		p.next()
		return api.Cond{Kind: api.IsText, S: g.text}
	case nameSign:
		p.next()
		return api.Cond{Kind: api.IsName, S: g.text}
	}
	switch {
	case p.take("true"):
		return api.Cond{Kind: api.IsTrue}
	case p.take("false"):
		return api.Cond{Kind: api.IsFalse}
	case p.sign.text == "(":
		return p.brackets()
	case p.sign.text == "-":
		return p.below()
	}
	p.fail(p.sign.at)
	return api.Cond{}
}

// below reads a number below 0: its digits stand just behind the "-".
func (p *parser) below() api.Cond {
	minus := p.sign
	p.next()
	g := p.sign
	switch {
	case g.at > minus.end || g.kind == endSign || !isDigit(p.text[g.at]):
		p.fail(minus.at)
	case g.kind == badSign || g.text == "0":
		p.fail(g.at)
	default:
		p.next()
		return api.Cond{Kind: api.IsNum, N: -number(g.text)}
	}
	return api.Cond{}
}

func (p *parser) brackets() api.Cond {
	if p.depth == api.MaxDepth {
		p.fail(p.sign.at)
		return api.Cond{}
	}
	p.depth++
	p.want("(")
	c := p.or()
	p.want(")")
	p.depth--
	return c
}
