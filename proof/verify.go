package proof

import (
	"slices"

	"sentry/api"
	"sentry/facts"
	"sentry/rules"
	"sentry/shape"
)

// verifier looks at steps.
type verifier struct {
	schema api.Schema
	facts  facts.Facts
	shut   []api.Ref
	sub    api.Sub
	steps  []api.Step
	err    api.Errno // of the facts
}

// Verify asks whether steps are a proof.
func Verify(s api.Schema, f facts.Facts, shut []api.Ref, a api.Ask, l []api.Step) (bool, api.Errno) {
	if e := rules.Check(s); e != api.OK {
		return false, e
	}
	if f == nil {
		return false, api.ErrArg
	}
	v := &verifier{schema: s, facts: f, shut: shut, sub: a.Sub, steps: l}
	for i := range l {
		right := v.right(i)
		if v.err != api.OK {
			return false, v.err
		}
		if !right {
			return false, api.OK
		}
	}
	return len(l) > 0 && v.proves(len(l)-1, a.Point), api.OK
}

// said asks whether the tuples say a subject of a point.
func (v *verifier) said(p api.Point, sub api.Sub) bool {
	subs, e := v.facts.Subs(p)
	if e != api.OK {
		v.err = e
	}
	return e == api.OK && slices.Contains(subs, sub)
}

// proves asks whether a step speaks of the whole rule of a point.
func (v *verifier) proves(i int, p api.Point) bool {
	rule, ok := rules.Find(v.schema, p.Obj.Type, p.Rel)
	return ok && v.speaks(i, p, rule)
}

// speaks asks whether a step speaks of that point, and of that rule.
func (v *verifier) speaks(i int, p api.Point, r api.Rule) bool {
	return v.steps[i].Point == p && shape.Equal(v.steps[i].Rule, r)
}

// right asks whether a step is right.
func (v *verifier) right(i int) bool {
	st := v.steps[i]
	ahead := !slices.ContainsFunc(st.By, func(n int) bool { return n < 0 || n >= i })
	if !ahead || !v.stands(st) {
		return false
	}
	switch st.Rule.Kind {
	case api.This:
		return v.this(st)
	case api.Via:
		to := api.Point{Obj: st.Sub.Obj, Rel: st.Rule.B}
		return st.Sub.Rel == "" && v.leans(st, to) && v.said(api.Point{Obj: st.Point.Obj, Rel: st.Rule.A}, st.Sub)
	}
	if st.Sub != (api.Sub{}) {
		return false
	}
	switch st.Rule.Kind {
	case api.Same:
		return v.leans(st, api.Point{Obj: st.Point.Obj, Rel: st.Rule.A})
	case api.Union:
		return len(st.By) == 1 && slices.ContainsFunc(st.Rule.Parts, func(p api.Rule) bool { return v.speaks(st.By[0], st.Point, p) })
	}
	return v.both(st)
}

// stands asks whether a step's rule stands in that of its point's relation, which isn't shut.
func (v *verifier) stands(st api.Step) bool {
	ref := api.Ref{Type: st.Point.Obj.Type, Rel: st.Point.Rel}
	rule, ok := rules.Find(v.schema, ref.Type, ref.Rel)
	return ok && !slices.Contains(v.shut, ref) && slices.ContainsFunc(parts(rule), func(p api.Rule) bool { return shape.Equal(p, st.Rule) })
}

// leans asks whether a step leans on just one, which proves a point.
func (v *verifier) leans(st api.Step, p api.Point) bool {
	return len(st.By) == 1 && v.proves(st.By[0], p)
}

func (v *verifier) this(st api.Step) bool {
	if len(st.By) == 0 {
		return st.Sub == v.sub && v.said(st.Point, st.Sub)
	}
	return st.Sub.Rel != "" && v.leans(st, api.Point{Obj: st.Sub.Obj, Rel: st.Sub.Rel}) && v.said(st.Point, st.Sub)
}

func (v *verifier) both(st api.Step) bool {
	if len(st.By) != len(st.Rule.Parts) {
		return false
	}
	for i, p := range st.Rule.Parts {
		if !v.speaks(st.By[i], st.Point, p) {
			return false
		}
	}
	return true
}
