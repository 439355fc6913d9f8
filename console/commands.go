package console

import (
	"strconv"

	"sentry/api"
)

// command is what a line's first word stands for: how many words follow (below 0: any number), and what is done.
type command struct {
	words int
	run   func(c *Console, a *answer, words []string) api.Errno
}

func commands() map[string]command {
	return map[string]command{
		"write":   {-1, (*Console).write},
		"check":   {2, (*Console).check},
		"why":     {2, (*Console).why},
		"read":    {2, (*Console).read},
		"who":     {3, (*Console).who},
		"what":    {4, (*Console).what},
		"changes": {2, (*Console).changes},
		"floor":   {1, (*Console).floor},
		"head":    {0, (*Console).head},
		"set":     {2, (*Console).set},
		"tidy":    {3, (*Console).tidy},
	}
}

func number(n uint64) string { return strconv.FormatUint(n, 10) }

func (c *Console) write(a *answer, words []string) api.Errno {
	l, pre, ok := batch(words)
	if !ok {
		return api.ErrForm
	}
	rev, e := c.service.Write(l, pre)
	a.line("ok", number(rev))
	return e
}

func (c *Console) check(a *answer, words []string) api.Errno {
	ask, rev, ok := c.ask(words)
	if !ok {
		return api.ErrForm
	}
	flags, e := c.service.Has([]api.Ask{ask}, rev, c.handed())
	if e != api.OK {
		return e
	}
	a.truth(flags[0])
	return api.OK
}

func (c *Console) why(a *answer, words []string) api.Errno {
	ask, rev, ok := c.ask(words)
	if !ok {
		return api.ErrForm
	}
	_, has, e := c.service.Why(ask, rev, c.handed())
	a.truth(has)
	return e
}

func (c *Console) read(a *answer, words []string) api.Errno {
	rev, ok := c.rev(words[1])
	if !ok {
		return api.ErrForm
	}
	f := api.Filter{Type: words[0]}
	if f.Type == "*" {
		f.Type = ""
	}
	l, e := c.service.Read(f, rev)
	for _, t := range l {
		a.tuple("", t)
	}
	return e
}

func (c *Console) who(a *answer, words []string) api.Errno {
	p, ok := object(words[0])
	rev, good := c.rev(words[2])
	if !ok || !good {
		return api.ErrForm
	}
	l, e := c.service.Subjects(p, words[1], rev, c.handed())
	a.objs(l)
	return e
}

func (c *Console) what(a *answer, words []string) api.Errno {
	sub, ok := subject(words[0])
	rev, good := c.rev(words[3])
	if !ok || !good {
		return api.ErrForm
	}
	l, e := c.service.Objects(api.Ref{Type: words[1], Rel: words[2]}, sub, rev, c.handed())
	a.objs(l)
	return e
}

func (c *Console) changes(a *answer, words []string) api.Errno {
	from, ok := c.rev(words[0])
	to, good := c.rev(words[1])
	if !ok || !good {
		return api.ErrForm
	}
	events, _, e := c.service.Changes(from, to, api.Filter{}, 0)
	for _, x := range events {
		sign := "+"
		if x.Write.Del {
			sign = "-"
		}
		a.tuple(number(x.Rev)+" "+sign, x.Write.Tuple)
	}
	return e
}

func (c *Console) floor(a *answer, words []string) api.Errno {
	rev, ok := c.rev(words[0])
	if !ok {
		return api.ErrForm
	}
	e := c.service.SetFloor(rev)
	a.line("ok", number(c.service.Floor()))
	return e
}

func (c *Console) head(a *answer, _ []string) api.Errno {
	a.line("head", number(c.service.Head()), "floor", number(c.service.Floor()))
	return api.OK
}

func (c *Console) set(a *answer, words []string) api.Errno {
	v, ok := value(words[1])
	if !ok {
		return api.ErrForm
	}
	c.args[words[0]] = v
	a.line("ok")
	return api.OK
}

func (c *Console) tidy(a *answer, words []string) api.Errno {
	var l []int
	for _, w := range words {
		n, ok := digits(w, longNumber)
		if !ok {
			return api.ErrForm
		}
		l = append(l, int(n))
	}
	a.line("ok")
	return c.service.Tidy(l[0], l[1], l[2])
}
