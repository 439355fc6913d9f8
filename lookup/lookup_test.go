package lookup_test

import (
	"slices"
	"strings"
	"testing"

	"sentry/api"
	"sentry/check"
	"sentry/facts"
	"sentry/lookup"
	"sentry/reach"
	"sentry/worlds"
)

// ids are the objects' IDs, with blanks between.
func ids(l []api.Obj) string {
	var s []string
	for _, o := range l {
		s = append(s, o.ID)
	}
	return strings.Join(s, " ")
}

var types = []string{"user", "group", "folder", "doc", "none", ""}

// P30.1, P30.2: against the plain answers.
func TestWorlds(t *testing.T) {
	told := 0
	for seed := range worlds.Draw(60) {
		d := seed*23 + 11
		w := d.World(40)
		book := facts.NewBook(w.Tuples)
		in := map[api.Sub]map[api.Point]int{}
		has := func(p api.Point, s api.Sub) bool {
			if in[s] == nil {
				in[s] = w.In(s)
			}
			return in[s][p] > 0
		}
		for _, typ := range types {
			objs, _ := book.Objects(typ)
			for _, p := range worlds.Points() {
				var want []api.Obj
				for _, o := range objs {
					if has(p, api.Sub{Obj: o}) {
						want = append(want, o)
					}
				}
				told += len(want)
				got, e := lookup.Subjects(w.Schema, book, w.Shut, p, typ, 1000)
				if e != api.OK || !slices.Equal(got, want) {
					t.Fatalf("seed %d: subjects of %v of %q: %v %d, want %v", seed, p, typ, got, e, want)
				}
				g, _ := reach.Walk(w.Schema, book, w.Shut, p, 1000)
				for i, set := range lookup.Sets(g, typ) {
					var want []api.Obj
					for _, o := range objs {
						if has(g.Points[i], api.Sub{Obj: o}) {
							want = append(want, o)
						}
					}
					if !slices.Equal(set, want) {
						t.Fatalf("seed %d: the set of %v: %v, want %v", seed, g.Points[i], set, want)
					}
				}
			}
			for _, rel := range []string{"viewer", "member", "editor", "none"} {
				for _, sub := range worlds.Subs() {
					var want []api.Obj
					for _, o := range objs {
						if has(api.Point{Obj: o, Rel: rel}, sub) {
							want = append(want, o)
						}
					}
					told += len(want)
					got, e := lookup.Objects(w.Schema, book, w.Shut, api.Ref{Type: typ, Rel: rel}, sub, 1000)
					if e != api.OK || !slices.Equal(got, want) {
						t.Fatalf("seed %d: objects of %s#%s of %v: %v %d, want %v", seed, typ, rel, sub, got, e, want)
					}
				}
			}
		}
	}
	if told < 500 {
		t.Fatal("the worlds are too empty:", told)
	}
}

// P30.1: the chapter's example, and order.
func TestExamples(t *testing.T) {
	s := worlds.Schema(worlds.Texts()[0])
	book := facts.NewBook(worlds.Tuples("doc:1#viewer@user:2 doc:1#viewer@user:10 doc:1#viewer@user:1 doc:1#viewer@group:1#member group:1#member@user:3 group:1#member@user:2 doc:2#viewer@user:2 doc:10#owner@user:2 folder:1#viewer@user:2 doc:1#viewer@doc:2 doc:3#viewer@user:4"))
	for typ, want := range map[string]string{"user": "1 10 2 3", "group": "", "doc": "2", "none": ""} {
		if got, e := lookup.Subjects(s, book, nil, worlds.Point("doc:1#viewer"), typ, 9); e != api.OK || ids(got) != want {
			t.Errorf("%s: %v %d", typ, got, e)
		}
	}
	for _, c := range []struct{ typ, rel, sub, want string }{{"doc", "viewer", "user:2", "1 10 2"}, {"folder", "viewer", "user:2", "1"}, {"doc", "viewer", "group:1#member", "1"}, {"doc", "viewer", "user:9", ""}, {"doc", "none", "user:2", ""}, {"none", "viewer", "user:2", ""}, {"doc", "viewer", "doc:2", "1"}} {
		if got, e := lookup.Objects(s, book, nil, api.Ref{Type: c.typ, Rel: c.rel}, worlds.Sub(c.sub), 9); e != api.OK || ids(got) != c.want {
			t.Errorf("%v: %v %d", c, got, e)
		}
	}
	shut := []api.Ref{{Type: "group", Rel: "member"}}
	if got, e := lookup.Subjects(s, book, shut, worlds.Point("doc:1#viewer"), "user", 9); e != api.OK || ids(got) != "1 10 2" {
		t.Error(got, e)
	}
}

// P30.1: any graph.
func TestSets(t *testing.T) {
	u := func(id string) api.Sub { return worlds.Sub("user:" + id) }
	g := api.Graph{Points: make([]api.Point, 5), Forms: []api.Form{
		{Kind: api.Union, Parts: []api.Form{{Kind: api.This, Subs: []api.Sub{u("2"), u("1"), worlds.Sub("user:7#x"), worlds.Sub("doc:1")}}, {Kind: api.Same, Refs: []int{1}}}},
		{Kind: api.Both, Parts: []api.Form{{Kind: api.This, Subs: []api.Sub{u("3"), u("1")}}, {Kind: api.Via, Refs: []int{0, 99, -1}}}},
		{Kind: api.Both},
		{Kind: 0, Subs: []api.Sub{u("9")}},
	}}
	sets := lookup.Sets(g, "user")
	var got []string
	for _, s := range sets {
		got = append(got, ids(s))
	}
	if strings.Join(got, ",") != "1 2,1,1 2 3,," {
		t.Error(got)
	}
	if len(sets) > 0 && len(sets[0]) > 0 {
		sets[0][0].ID = "changed"
		if sets[1][0].ID != "1" {
			t.Error("lists share memory")
		}
	}
	for i, s := range lookup.Sets(g, "doc") {
		if want := []string{"1", "", "1", "", ""}[i]; ids(s) != want {
			t.Error(i, s)
		}
	}
	if got := lookup.Sets(api.Graph{}, "user"); len(got) != 0 {
		t.Error(got)
	}
	for i, round := range check.Solve(g, u("1")) {
		if round > 0 != (len(sets[i]) > 0) {
			t.Error(i, round)
		}
	}
}

// P30.1: a This that stands among the forms behind those of the points names objects, but no point is in by it.
func TestFormsBehindPoints(t *testing.T) {
	this := func(subs ...string) api.Form {
		f := api.Form{Kind: api.This}
		for _, s := range subs {
			f.Subs = append(f.Subs, worlds.Sub(s))
		}
		return f
	}
	both := api.Form{Kind: api.Both}
	empty := api.Form{Kind: api.This, Subs: []api.Sub{{Obj: api.Obj{Type: "user"}}}}
	for i, c := range []struct {
		points int
		forms  []api.Form
		want   string
	}{
		{1, []api.Form{both, this("user:2", "user:10", "user:2", "user:3#x", "doc:4")}, "10 2"},
		{1, []api.Form{both, both, {Kind: api.Union, Parts: []api.Form{this("user:1")}}}, "1"},
		{1, []api.Form{both, {Subs: []api.Sub{worlds.Sub("user:1")}, Parts: []api.Form{this("user:2")}}}, "2"},
		{1, []api.Form{both, {Kind: api.Same, Subs: []api.Sub{worlds.Sub("user:1")}}}, ""},
		{1, []api.Form{{Kind: api.Union, Parts: []api.Form{both, this("user:1")}}, this("user:2")}, "1 2"},
		{1, []api.Form{{Kind: api.Both, Parts: []api.Form{both, this("user:1")}}, this("user:2")}, "1"},
		{1, []api.Form{{Kind: api.Same, Refs: []int{1}}, this("user:2")}, ""},
		{1, []api.Form{this("user:1"), this("user:2")}, "1"},
		{2, []api.Form{both, {Kind: api.Same, Refs: []int{0}}, this("user:2")}, "2,2"},
		{3, []api.Form{both, this("user:2")}, "2,2,"},
		{0, []api.Form{both, this("user:2")}, ""},
	} {
		sets := lookup.Sets(api.Graph{Points: make([]api.Point, c.points), Forms: c.forms}, "user")
		var got []string
		for _, s := range sets {
			got = append(got, ids(s))
		}
		if len(sets) != c.points || strings.Join(got, ",") != c.want {
			t.Errorf("%d: %v, want %q", i, sets, c.want)
		}
	}
	sets := lookup.Sets(api.Graph{Points: make([]api.Point, 1), Forms: []api.Form{both, empty}}, "user")
	if len(sets) != 1 || len(sets[0]) != 1 || sets[0][0] != empty.Subs[0].Obj {
		t.Error("an empty ID:", sets)
	}
}

// form is any form, with numbers from -1 to n.
func form(d *worlds.Draw, n, deep int) api.Form {
	f := api.Form{Kind: d.Next(7)}
	for range d.Next(6) {
		f.Subs = append(f.Subs, worlds.Subs()[d.Next(len(worlds.Subs()))])
	}
	for range d.Next(3) {
		f.Refs = append(f.Refs, d.Next(n+2)-1)
	}
	for range d.Next(3) * min(deep, 1) {
		f.Parts = append(f.Parts, form(d, n, deep-1))
	}
	return f
}

// names asks whether a This names an object.
func names(f api.Form, o api.Obj) bool {
	return f.Kind == api.This && slices.Contains(f.Subs, api.Sub{Obj: o}) || slices.ContainsFunc(f.Parts, func(p api.Form) bool { return names(p, o) })
}

// P30.1: any graphs, with fewer or more forms than points, against layer 27's least sets.
func TestAnyGraphs(t *testing.T) {
	told := 0
	for seed := range worlds.Draw(3000) {
		d := seed*29 + 5
		n := d.Next(5)
		g := api.Graph{Points: make([]api.Point, n)}
		for range d.Next(9) {
			g.Forms = append(g.Forms, form(&d, n, 2))
		}
		for _, typ := range types {
			want := make([][]api.Obj, n)
			for _, s := range worlds.Subs() {
				if s.Rel != "" || s.Obj.Type != typ || !slices.ContainsFunc(g.Forms, func(f api.Form) bool { return names(f, s.Obj) }) {
					continue
				}
				for i, round := range check.Solve(g, s) {
					if round > 0 {
						want[i] = append(want[i], s.Obj)
						told++
					}
				}
			}
			got := lookup.Sets(g, typ)
			if len(got) != n {
				t.Fatalf("seed %d: %d points, want %d", seed, len(got), n)
			}
			for i := range got {
				slices.SortFunc(want[i], func(a, b api.Obj) int { return strings.Compare(a.ID, b.ID) })
				if !slices.Equal(got[i], want[i]) {
					t.Fatalf("seed %d: the set of %d of %q: %v, want %v", seed, i, typ, got[i], want[i])
				}
			}
		}
	}
	if told < 1000 {
		t.Fatal("the graphs are too empty:", told)
	}
}

// odd tells objects that no tuple names, and an error for a type.
type odd struct {
	facts.Facts
	objs []api.Obj
}

func (o odd) Objects(typ string) ([]api.Obj, api.Errno) {
	if typ == "wrong" {
		return nil, api.ErrSum
	}
	return o.objs, api.OK
}

// P30.1: errors, in their order; members are those whom the facts know.
func TestErrors(t *testing.T) {
	s := worlds.Schema(worlds.Texts()[0])
	bad := worlds.Schema("type a", "type a")
	book := facts.NewBook(worlds.Tuples("doc:1#parent@folder:1 doc:2#viewer@user:1 doc:1#viewer@user:1"))
	p, u := worlds.Point("doc:1#viewer"), worlds.Sub("user:1")
	r := api.Ref{Type: "doc", Rel: "viewer"}
	for i, c := range []struct {
		s                 api.Schema
		f                 facts.Facts
		most              int
		subjects, objects api.Errno
	}{
		{bad, nil, 0, api.ErrExists, api.ErrExists}, {s, nil, 0, api.ErrArg, api.ErrArg}, {s, facts.At(nil, 0), 9, api.ErrRev, api.ErrRev}, {s, book, 0, api.ErrLong, api.ErrLong},
		{s, book, 4, api.ErrLong, api.ErrLong}, {s, book, 5, api.OK, api.OK}, {s, facts.NewBook(nil), 3, api.OK, api.OK}, {s, facts.NewBook(nil), 2, api.ErrLong, api.OK},
	} {
		if got, e := lookup.Subjects(c.s, c.f, nil, p, "user", c.most); e != c.subjects || e != api.OK && len(got) != 0 {
			t.Errorf("%d: subjects: %d", i, e)
		}
		if got, e := lookup.Objects(c.s, c.f, nil, r, u, c.most); e != c.objects || e != api.OK && len(got) != 0 {
			t.Errorf("%d: objects: %d", i, e)
		}
	}
	f := odd{book, []api.Obj{{Type: "user", ID: "7"}}}
	if got, e := lookup.Subjects(s, f, nil, p, "user", 9); e != api.OK || len(got) != 0 {
		t.Error("facts that don't know the subject:", got, e)
	}
	if got, e := lookup.Subjects(s, f, nil, p, "wrong", 9); e != api.ErrSum || len(got) != 0 {
		t.Error(got, e)
	}
	if got, e := lookup.Objects(s, f, nil, api.Ref{Type: "wrong"}, u, 9); e != api.ErrSum || len(got) != 0 {
		t.Error(got, e)
	}
}
