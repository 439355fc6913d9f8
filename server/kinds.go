package server

import (
	"sentry/api"
)

// acts are the kinds of requests that ask at no revision.
func (x *Server) acts() map[int]func(q api.Request) api.Response {
	return map[int]func(q api.Request) api.Response{
		api.DoWrite: x.write,
		api.DoFloor: x.setFloor,
	}
}

// asks are the kinds of requests that ask at a revision.
func (x *Server) asks() map[int]func(q api.Request, rev uint64) api.Response {
	return map[int]func(q api.Request, rev uint64) api.Response{
		api.DoRead:     x.read,
		api.DoHas:      x.has,
		api.DoExpand:   x.expand,
		api.DoWhy:      x.why,
		api.DoSubjects: x.subjects,
		api.DoObjects:  x.objects,
		api.DoChanges:  x.changes,
		api.DoHead:     x.head,
	}
}

func (x *Server) write(q api.Request) api.Response {
	rev, e := x.service.Write(q.Writes, q.Pres)
	return api.Response{Err: e, Rev: rev}
}

func (x *Server) setFloor(q api.Request) api.Response {
	e := x.service.SetFloor(q.N)
	return api.Response{Err: e, Rev: x.service.Floor()}
}

func (x *Server) head(api.Request, uint64) api.Response { return api.Response{} }

func (x *Server) read(q api.Request, rev uint64) api.Response {
	l, e := x.service.Read(q.Filter, rev)
	return api.Response{Err: e, Tuples: l}
}

func (x *Server) has(q api.Request, rev uint64) api.Response {
	flags, e := x.service.Has(q.Asks, rev, q.Args)
	return api.Response{Err: e, Flags: flags}
}

func (x *Server) changes(q api.Request, rev uint64) api.Response {
	events, _, e := x.service.Changes(q.N, rev, q.Filter, 0)
	return api.Response{Err: e, Events: events}
}

// first hands the first ask to answer, if there is one.
func first(q api.Request, answer func(a api.Ask) api.Response) api.Response {
	if len(q.Asks) == 0 {
		return api.Response{Err: api.ErrArg}
	}
	return answer(q.Asks[0])
}

func (x *Server) expand(q api.Request, rev uint64) api.Response {
	return first(q, func(a api.Ask) api.Response {
		tree, e := x.service.Expand(a.Point, int(min(q.N, deepest)), rev, q.Args)
		return api.Response{Err: e, Tree: tree}
	})
}

func (x *Server) why(q api.Request, rev uint64) api.Response {
	return first(q, func(a api.Ask) api.Response {
		steps, has, e := x.service.Why(a, rev, q.Args)
		return api.Response{Err: e, Steps: steps, Flags: []bool{has}}
	})
}

func (x *Server) subjects(q api.Request, rev uint64) api.Response {
	return first(q, func(a api.Ask) api.Response {
		objs, e := x.service.Subjects(a.Point, q.Typ, rev, q.Args)
		return api.Response{Err: e, Objs: objs}
	})
}

func (x *Server) objects(q api.Request, rev uint64) api.Response {
	return first(q, func(a api.Ask) api.Response {
		objs, e := x.service.Objects(api.Ref{Type: q.Typ, Rel: a.Point.Rel}, a.Sub, rev, q.Args)
		return api.Response{Err: e, Objs: objs}
	})
}
