package lookup

import (
	"maps"
	"slices"

	"sentry/api"
	"sentry/order"
)

// set is objects, each once.
type set map[api.Obj]struct{}

func setOf(l []api.Obj) set {
	s := set{}
	for _, o := range l {
		s[o] = struct{}{}
	}
	return s
}

func (s set) has(o api.Obj) bool {
	_, ok := s[o]
	return ok
}

// join adds another set's objects.
func (s set) join(other set) { maps.Copy(s, other) }

// meet lets those go that another set hasn't.
func (s set) meet(other set) {
	maps.DeleteFunc(s, func(o api.Obj, _ struct{}) bool { return !other.has(o) })
}

// list is the set's objects, in order.
func (s set) list() []api.Obj { return slices.SortedFunc(maps.Keys(s), order.Objs) }

// named are the objects of a type that a form's own tuples name, without a Rel.
func named(f api.Form, typ string) set {
	s := set{}
	if f.Kind == api.This {
		for _, sub := range f.Subs {
			if sub.Rel == "" && sub.Obj.Type == typ {
				s[sub.Obj] = struct{}{}
			}
		}
	}
	return s
}

// all are the objects that a form, or a part of it, names.
func all(f api.Form, typ string) set {
	s := named(f, typ)
	for _, p := range f.Parts {
		s.join(all(p, typ))
	}
	return s
}

// solver lets the sets of a graph's points grow, till they go together.
type solver struct {
	forms []api.Form
	typ   string
	every set // all objects of the type that some This of the graph names
	sets  []set
	named [][]int // of each point, which points' forms name it
	left  []int   // points that may grow
	waits []bool  // which of them are among those
}

func newSolver(g api.Graph, typ string) *solver {
	n := len(g.Points)
	s := &solver{forms: make([]api.Form, n), typ: typ, every: set{}, sets: make([]set, n), named: make([][]int, n), waits: make([]bool, n)}
	copy(s.forms, g.Forms)
	// A This behind the points' forms names objects, too: a Both without Parts holds of them.
	for _, f := range g.Forms {
		s.every.join(all(f, typ))
	}
	for i, f := range s.forms {
		s.note(i, f)
		s.ask(i)
	}
	return s
}

// note keeps that a point's form names others.
func (s *solver) note(i int, f api.Form) {
	for _, n := range f.Refs {
		if n >= 0 && n < len(s.named) {
			s.named[n] = append(s.named[n], i)
		}
	}
	for _, p := range f.Parts {
		s.note(i, p)
	}
}

// ask lets a point be looked at, once.
func (s *solver) ask(i int) {
	if !s.waits[i] {
		s.waits[i] = true
		s.left = append(s.left, i)
	}
}

// solve looks at points, the last one first, as long as one may grow: what is named stands behind what names it.
func (s *solver) solve() {
	for len(s.left) > 0 {
		i := s.left[len(s.left)-1]
		s.left = s.left[:len(s.left)-1]
		s.waits[i] = false
		grown := s.members(s.forms[i])
		if len(grown) == len(s.sets[i]) {
			continue
		}
		s.sets[i] = grown
		for _, n := range s.named[i] {
			s.ask(n)
		}
	}
}

// members are those of whom a form holds, by the sets as they are.
func (s *solver) members(f api.Form) set {
	m := set{}
	switch f.Kind {
	case api.This, api.Same, api.Via:
		m = named(f, s.typ)
		for _, n := range f.Refs {
			if n >= 0 && n < len(s.sets) {
				m.join(s.sets[n])
			}
		}
	case api.Union:
		for _, p := range f.Parts {
			m.join(s.members(p))
		}
	case api.Both:
		m.join(s.every)
		for _, p := range f.Parts {
			m.meet(s.members(p))
		}
	}
	return m
}

// Sets are who is in each point.
func Sets(g api.Graph, typ string) [][]api.Obj {
	s := newSolver(g, typ)
	s.solve()
	lists := make([][]api.Obj, len(s.sets))
	for i, m := range s.sets {
		lists[i] = m.list()
	}
	return lists
}
