package service

import (
	"sentry/api"
	"sentry/bulk"
	"sentry/expand"
	"sentry/facts"
	"sentry/lookup"
	"sentry/proof"
	"sentry/weigh"
)

// view is what is there at a revision, and which relations don't count.
type view struct {
	facts.Snap
	shut []api.Ref
}

// view is the view at a revision that may be asked for, by the arguments that are handed in.
func (s *Service) view(rev uint64, args []api.Arg) (view, api.Errno) {
	if s == nil || rev < s.Floor() || rev > s.Head() {
		return view{}, api.ErrRev
	}
	shut, e := weigh.Shut(s.params, s.gates, args)
	if e != api.OK {
		return view{}, e
	}
	return view{Snap: facts.At(s.store, rev), shut: shut}, api.OK
}

// Read are the tuples that are meant.
func (s *Service) Read(f api.Filter, rev uint64) ([]api.Tuple, api.Errno) {
	if s == nil {
		return nil, api.ErrRev
	}
	return facts.At(s.store, rev).Tuples(f)
}

// Has answers questions.
func (s *Service) Has(l []api.Ask, rev uint64, args []api.Arg) ([]bool, api.Errno) {
	v, e := s.view(rev, args)
	if e != api.OK {
		return nil, e
	}
	return bulk.Many(s.schema, v, v.shut, l, s.most)
}

// Expand is the tree of a point.
func (s *Service) Expand(p api.Point, depth int, rev uint64, args []api.Arg) (api.Node, api.Errno) {
	v, e := s.view(rev, args)
	if e != api.OK {
		return api.Node{}, e
	}
	return expand.Tree(s.schema, v, v.shut, p, depth, s.most)
}

// Why is a proof.
func (s *Service) Why(a api.Ask, rev uint64, args []api.Arg) ([]api.Step, bool, api.Errno) {
	v, e := s.view(rev, args)
	if e != api.OK {
		return nil, false, e
	}
	return proof.Prove(s.schema, v, v.shut, a, s.most)
}

// Subjects are the members of a point.
func (s *Service) Subjects(p api.Point, typ string, rev uint64, args []api.Arg) ([]api.Obj, api.Errno) {
	v, e := s.view(rev, args)
	if e != api.OK {
		return nil, e
	}
	return lookup.Subjects(s.schema, v, v.shut, p, typ, s.most)
}

// Objects are those to which a subject has a relation.
func (s *Service) Objects(r api.Ref, sub api.Sub, rev uint64, args []api.Arg) ([]api.Obj, api.Errno) {
	v, e := s.view(rev, args)
	if e != api.OK {
		return nil, e
	}
	return lookup.Objects(s.schema, v, v.shut, r, sub, s.most)
}
