package wire

import (
	"sentry/api"
	"sentry/codec"
)

// reader reads bytes, as long as nothing is wrong.
type reader struct {
	rest  []byte
	depth int
	bad   bool
}

func (r *reader) number() uint64 {
	if r.bad {
		return 0
	}
	v, n, e := codec.Get(r.rest)
	r.rest, r.bad = r.rest[n:], e != api.OK
	return v
}

func (r *reader) long() int64 {
	v := r.number()
	return int64(v>>1) ^ -int64(v&1)
}

func (r *reader) whole() int { return int(r.long()) }

func (r *reader) truth() bool {
	v := r.number()
	if v > 1 {
		r.bad = true
	}
	return v == 1
}

func (r *reader) text() string {
	if r.bad {
		return ""
	}
	s, n, e := codec.GetText(r.rest)
	r.rest, r.bad = r.rest[n:], e != api.OK
	return s
}

// getList reads how many items there are, and each.
func getList[T any](r *reader, item func() T) []T {
	var l []T
	for n := r.number(); n > 0 && !r.bad; n-- {
		l = append(l, item())
	}
	return l
}

// within reads what stands within something, if it isn't too deep.
func (r *reader) within(read func()) {
	r.depth++
	r.bad = r.bad || r.depth > deepest
	if !r.bad {
		read()
	}
	r.depth--
}

func (r *reader) obj() api.Obj     { return api.Obj{Type: r.text(), ID: r.text()} }
func (r *reader) sub() api.Sub     { return api.Sub{Obj: r.obj(), Rel: r.text()} }
func (r *reader) point() api.Point { return api.Point{Obj: r.obj(), Rel: r.text()} }

func (r *reader) tuple() api.Tuple {
	return api.Tuple{Obj: r.obj(), Rel: r.text(), Sub: r.sub()}
}

func (r *reader) write() api.Write { return api.Write{Del: r.truth(), Tuple: r.tuple()} }
func (r *reader) pre() api.Pre     { return api.Pre{Not: r.truth(), Tuple: r.tuple()} }
func (r *reader) ask() api.Ask     { return api.Ask{Point: r.point(), Sub: r.sub()} }

func (r *reader) arg() api.Arg {
	return api.Arg{Name: r.text(), Val: api.Val{Kind: r.whole(), N: r.long(), S: r.text()}}
}

func (r *reader) event() api.Event { return api.Event{Rev: r.number(), Write: r.write()} }

func (r *reader) rule() api.Rule {
	var x api.Rule
	r.within(func() {
		x = api.Rule{Kind: r.whole(), A: r.text(), B: r.text(), Parts: getList(r, r.rule)}
	})
	return x
}

func (r *reader) step() api.Step {
	return api.Step{Point: r.point(), Rule: r.rule(), Sub: r.sub(), By: getList(r, r.whole)}
}

func (r *reader) node() api.Node {
	var n api.Node
	r.within(func() {
		n = api.Node{Kind: r.whole(), Obj: r.obj(), Rel: r.text(), Subs: getList(r, r.sub), Parts: getList(r, r.node)}
	})
	return n
}
