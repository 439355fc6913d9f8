// Package worlds makes schemas and tuples for the tests of the layers that answer who has a relation, and answers it itself, plainly and slowly.
package worlds

import (
	"slices"
	"strings"

	"sentry/api"
	"sentry/schema"
	"sentry/tuple"
)

// Schema reads a schema's text; of one that is none it is empty.
func Schema(lines ...string) api.Schema {
	s, _, _ := schema.Parse(strings.Join(lines, "\n"))
	return s
}

// Tuples reads tuples' texts, with blanks between; what is none is left out.
func Tuples(text string) []api.Tuple {
	var l []api.Tuple
	for _, w := range strings.Fields(text) {
		if t, e := tuple.Parse(w); e == api.OK {
			l = append(l, t)
		}
	}
	return l
}

// Point reads "doc:1#viewer".
func Point(text string) api.Point {
	t, _ := tuple.Parse(text + "@x:x")
	return api.Point{Obj: t.Obj, Rel: t.Rel}
}

// Sub reads "user:1" or "group:1#member".
func Sub(text string) api.Sub {
	t, _ := tuple.Parse("x:x#x@" + text)
	return t.Sub
}

// head is how each schema begins.
const head = `type user
type group
member = this
all = member
type folder
parent = this
owner = this
viewer = this | owner | parent->viewer
type doc
parent = this
owner = this
blocked = this
`

// Texts are schemas of the same types and relations, with other rules.
func Texts() []string {
	return []string{
		head + "editor = this | owner\nviewer = this | editor | parent->viewer",
		head + "editor = owner & this\nviewer = (editor | parent->viewer | this) & blocked",
		head + "editor = viewer\nviewer = editor | this & owner",
		head + "editor = parent->owner & parent->viewer | blocked\nviewer = editor & (owner | this) | parent->viewer & (this | this & owner)",
		head + "editor = this & this\nviewer = parent->editor | parent->all | this | this",
	}
}

// types, relations of each, and how many objects of each there are.
func relations(typ string) []string {
	switch typ {
	case "group":
		return []string{"member", "all"}
	case "folder":
		return []string{"parent", "owner", "viewer"}
	case "doc":
		return []string{"parent", "owner", "blocked", "editor", "viewer"}
	}
	return nil
}

const (
	types = "user group folder doc"
	ids   = "1 2 3"
)

// Points are all points of a world, and two that are none of any rule.
func Points() []api.Point {
	l := []api.Point{Point("user:1#viewer"), Point("none:1#none")}
	for _, typ := range strings.Fields(types) {
		for _, id := range strings.Fields(ids) {
			for _, rel := range relations(typ) {
				l = append(l, api.Point{Obj: api.Obj{Type: typ, ID: id}, Rel: rel})
			}
		}
	}
	return l
}

// Subs are subjects of a world.
func Subs() []api.Sub {
	var l []api.Sub
	plain := "user:1 user:2 user:3 group:1 folder:1 folder:2 folder:3 doc:1"
	sets := "group:1#member group:2#member group:3#member group:1#all doc:1#viewer doc:2#editor folder:2#viewer"
	for _, s := range strings.Fields(plain + " " + sets) {
		l = append(l, Sub(s))
	}
	return l
}

// Draw is a row of numbers that looks like chance.
type Draw uint32

// Next is the next number, from 0 on, less than n.
func (d *Draw) Next(n int) int {
	*d = *d*1664525 + 1013904223
	return int(*d>>8) % n
}

// Tuples are so many tuples, some of them twice.
func (d *Draw) Tuples(n int) []api.Tuple {
	points, subs := Points(), Subs()
	var l []api.Tuple
	for range n {
		p := points[d.Next(len(points))]
		s := subs[d.Next(len(subs))]
		if p.Rel == "parent" && d.Next(3) > 0 {
			s = Sub("folder:" + string(rune('1'+d.Next(3))))
		}
		l = append(l, api.Tuple{Obj: p.Obj, Rel: p.Rel, Sub: s})
	}
	return l
}

// Shut are some relations that don't count, mostly none.
func (d *Draw) Shut() []api.Ref {
	var l []api.Ref
	for _, typ := range strings.Fields(types) {
		for _, rel := range relations(typ) {
			if d.Next(15) == 0 {
				l = append(l, api.Ref{Type: typ, Rel: rel})
			}
		}
	}
	return l
}

// World is a schema, tuples, and relations that are shut.
type World struct {
	Schema api.Schema
	Tuples []api.Tuple
	Shut   []api.Ref
}

// World is a world of about so many tuples.
func (d *Draw) World(n int) World {
	texts := Texts()
	return World{Schema: Schema(texts[d.Next(len(texts))]), Tuples: d.Tuples(1 + d.Next(n)), Shut: d.Shut()}
}

// rule is a relation's rule, if it counts.
func (w World) rule(p api.Point) (api.Rule, bool) {
	if slices.Contains(w.Shut, api.Ref{Type: p.Obj.Type, Rel: p.Rel}) {
		return api.Rule{}, false
	}
	for _, t := range w.Schema.Types {
		for _, r := range t.Rels {
			if t.Name == p.Obj.Type && r.Name == p.Rel {
				return r.Rule, true
			}
		}
	}
	return api.Rule{}, false
}

// points are all points that a subject might be asked of.
func (w World) points() []api.Point {
	var objs []api.Obj
	for _, t := range w.Tuples {
		objs = append(objs, t.Obj, t.Sub.Obj)
	}
	for _, p := range Points() {
		objs = append(objs, p.Obj)
	}
	var l []api.Point
	seen := map[api.Obj]int{}
	for _, o := range objs {
		seen[o]++
		if seen[o] > 1 {
			continue
		}
		for _, t := range w.Schema.Types {
			for _, r := range t.Rels {
				if t.Name == o.Type {
					l = append(l, api.Point{Obj: o, Rel: r.Name})
				}
			}
		}
	}
	return l
}

// holds asks whether a part of a point's rule holds of a subject, by a set of points.
func (w World) holds(p api.Point, r api.Rule, sub api.Sub, in map[api.Point]int) bool {
	switch r.Kind {
	case api.This:
		return slices.ContainsFunc(w.Tuples, func(t api.Tuple) bool {
			said := t.Obj == p.Obj && t.Rel == p.Rel
			return said && (t.Sub == sub || t.Sub.Rel != "" && in[api.Point{Obj: t.Sub.Obj, Rel: t.Sub.Rel}] > 0)
		})
	case api.Same:
		return in[api.Point{Obj: p.Obj, Rel: r.A}] > 0
	case api.Via:
		return slices.ContainsFunc(w.Tuples, func(t api.Tuple) bool {
			return t.Obj == p.Obj && t.Rel == r.A && t.Sub.Rel == "" && in[api.Point{Obj: t.Sub.Obj, Rel: r.B}] > 0
		})
	case api.Union:
		return slices.ContainsFunc(r.Parts, func(q api.Rule) bool { return w.holds(p, q, sub, in) })
	}
	return !slices.ContainsFunc(r.Parts, func(q api.Rule) bool { return !w.holds(p, q, sub, in) })
}

// In tells of each point of which a subject has the relation in which round it came into the least set.
func (w World) In(sub api.Sub) map[api.Point]int {
	in := map[api.Point]int{}
	points := w.points()
	for round := 1; ; round++ {
		var came []api.Point
		for _, p := range points {
			if r, ok := w.rule(p); ok && in[p] == 0 && w.holds(p, r, sub, in) {
				came = append(came, p)
			}
		}
		if len(came) == 0 {
			return in
		}
		for _, p := range came {
			in[p] = round
		}
	}
}

// Has asks whether a subject has a relation.
func (w World) Has(a api.Ask) bool { return w.In(a.Sub)[a.Point] > 0 }
