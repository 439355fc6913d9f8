package reach_test

import (
	"reflect"
	"slices"
	"strings"
	"testing"

	"sentry/api"
	"sentry/disk"
	"sentry/facts"
	"sentry/index"
	"sentry/reach"
	"sentry/schema"
	"sentry/store"
	"sentry/tuple"
)

func parse(t *testing.T, text string) api.Schema {
	t.Helper()
	s, line, e := schema.Parse(text)
	if e != api.OK {
		t.Fatalf("line %d: %d", line, e)
	}
	return s
}

func tuples(t *testing.T, text string) []api.Tuple {
	t.Helper()
	var l []api.Tuple
	for _, w := range strings.Fields(text) {
		x, e := tuple.Parse(w)
		if e != api.OK {
			t.Fatal(w)
		}
		l = append(l, x)
	}
	return l
}

// points reads "doc:1#viewer group:1#member" as points.
func points(text string) []api.Point {
	var l []api.Point
	for _, w := range strings.Fields(text) {
		x, _ := tuple.Parse(w + "@x:x")
		l = append(l, api.Point{Obj: x.Obj, Rel: x.Rel})
	}
	return l
}

func subs(text string) []api.Sub {
	var l []api.Sub
	for _, w := range strings.Fields(text) {
		x, _ := tuple.Parse("x:x#x@" + w)
		l = append(l, x.Sub)
	}
	return l
}

func this(s string, refs ...int) api.Form {
	return api.Form{Kind: api.This, Subs: subs(s), Refs: refs}
}
func same(refs ...int) api.Form { return api.Form{Kind: api.Same, Refs: refs} }
func via(refs ...int) api.Form  { return api.Form{Kind: api.Via, Refs: refs} }
func union(l ...api.Form) api.Form {
	return api.Form{Kind: api.Union, Parts: l}
}
func both(l ...api.Form) api.Form { return api.Form{Kind: api.Both, Parts: l} }

func sameForm(a, b api.Form) bool {
	return a.Kind == b.Kind && slices.Equal(a.Subs, b.Subs) && slices.Equal(a.Refs, b.Refs) && slices.EqualFunc(a.Parts, b.Parts, sameForm)
}

const text = `type user
type group
member = this
type folder
parent = this
owner = this
viewer = this | owner | parent->viewer
type doc
parent = this
owner = this
blocked = this
viewer = parent->viewer | this & owner
twice = this | this | owner & owner
ring = ring`

const said = "doc:1#parent@folder:2 doc:1#parent@folder:1 doc:1#parent@group:9#member doc:1#parent@user:5 doc:1#viewer@user:1 doc:1#viewer@group:1#member doc:1#owner@user:1 " +
	"folder:1#viewer@group:1#member folder:1#viewer@group:2#member folder:2#parent@folder:1 group:1#member@group:2#member group:2#member@group:1#member group:2#member@user:7 " +
	"doc:2#twice@group:1#member doc:2#twice@user:1 doc:3#viewer@none:1#member doc:3#owner@doc:3#nothing"

// P26.1: graphs.
func TestWalk(t *testing.T) {
	s := parse(t, text)
	cases := []struct {
		point, shut string
		points      string
		forms       []api.Form
	}{
		{"group:1#member", "", "group:1#member group:2#member", []api.Form{this("group:2#member", 1), this("group:1#member user:7", 0)}},
		{"doc:1#none", "", "doc:1#none", []api.Form{{}}},
		{"none:1#viewer", "", "none:1#viewer", []api.Form{{}}},
		{"doc:1#owner", "", "doc:1#owner", []api.Form{this("user:1")}},
		{"doc:9#owner", "", "doc:9#owner", []api.Form{this("")}},
		{"doc:1#owner", "doc:x#owner", "doc:1#owner", []api.Form{{}}},
		{"doc:1#owner", "user:x#owner doc:x#viewer", "doc:1#owner", []api.Form{this("user:1")}},
		{"doc:1#ring", "", "doc:1#ring", []api.Form{same(0)}},
		{"doc:2#twice", "", "doc:2#twice group:1#member doc:2#owner group:2#member", []api.Form{union(this("group:1#member user:1", 1), this("group:1#member user:1", 1), both(same(2), same(2))), this("group:2#member", 3), this(""), this("group:1#member user:7", 1)}},
		{"doc:1#viewer", "", "doc:1#viewer folder:1#viewer folder:2#viewer user:5#viewer group:1#member doc:1#owner group:2#member folder:1#owner folder:2#owner", []api.Form{
			union(via(1, 2, 3), both(this("group:1#member user:1", 4), same(5))),
			union(this("group:1#member group:2#member", 4, 6), same(7), via()),
			union(this(""), same(8), via(1)),
			{}, this("group:2#member", 6), this("user:1"), this("group:1#member user:7", 4), this(""), this("")}},
		// A of a Via may be shut: its tuples are gone through all the same.
		{"doc:1#viewer", "doc:x#parent folder:x#viewer doc:x#owner", "doc:1#viewer folder:1#viewer folder:2#viewer user:5#viewer group:1#member doc:1#owner group:2#member", []api.Form{
			union(via(1, 2, 3), both(this("group:1#member user:1", 4), same(5))), {}, {}, {}, this("group:2#member", 6), {}, this("group:1#member user:7", 4)}},
		{"doc:3#viewer", "", "doc:3#viewer none:1#member doc:3#owner doc:3#nothing", []api.Form{union(via(), both(this("none:1#member", 1), same(2))), {}, this("doc:3#nothing", 3), {}}},
	}
	book := facts.NewBook(tuples(t, said))
	st, _ := store.Open(disk.New(1<<20), api.Setup{Split: 50})
	for _, x := range tuples(t, said) {
		entries, _ := index.Entries([]api.Write{{Tuple: x}})
		st.Commit(entries)
	}
	for _, c := range cases {
		var shut []api.Ref
		for _, p := range points(c.shut) {
			shut = append(shut, api.Ref{Type: p.Obj.Type, Rel: p.Rel})
		}
		want := api.Graph{Points: points(c.points), Forms: c.forms}
		for _, f := range []facts.Facts{book, facts.At(st, st.Head())} {
			got, e := reach.Walk(s, f, shut, points(c.point)[0], len(want.Points))
			if e != api.OK || !slices.Equal(got.Points, want.Points) || !slices.EqualFunc(got.Forms, want.Forms, sameForm) {
				t.Errorf("%s: %v %d", c.point, got, e)
			}
			if got, e := reach.Walk(s, f, shut, points(c.point)[0], len(want.Points)-1); e != api.ErrLong || !reflect.DeepEqual(got, api.Graph{}) {
				t.Errorf("%s: too long: %d", c.point, e)
			}
			closed(t, got)
		}
	}
}

// closed checks that each number in a graph is a point's (P26.2).
func closed(t *testing.T, g api.Graph) {
	t.Helper()
	var look func(f api.Form)
	look = func(f api.Form) {
		for _, n := range f.Refs {
			if n < 0 || n >= len(g.Points) {
				t.Fatalf("%d is no point", n)
			}
		}
		for _, p := range f.Parts {
			look(p)
		}
	}
	if len(g.Forms) != len(g.Points) {
		t.Fatal("forms")
	}
	for _, f := range g.Forms {
		look(f)
	}
}

// P26.3: a graph hangs on nothing but its points' tuples, and those of the A of a Via.
func TestHangsOn(t *testing.T) {
	s := parse(t, text)
	l := tuples(t, said)
	for _, p := range points("doc:1#viewer doc:2#twice folder:2#viewer group:2#member doc:3#viewer doc:9#viewer") {
		want, _ := reach.Walk(s, facts.NewBook(l), nil, p, 100)
		mine := slices.DeleteFunc(slices.Clone(l), func(x api.Tuple) bool {
			parent := x.Rel == "parent" && slices.Contains(want.Points, api.Point{Obj: x.Obj, Rel: "viewer"})
			return !parent && !slices.Contains(want.Points, api.Point{Obj: x.Obj, Rel: x.Rel})
		})
		got, e := reach.Walk(s, facts.NewBook(mine), nil, p, 100)
		if e != api.OK || !reflect.DeepEqual(got, want) {
			t.Errorf("%v: %v, want %v", p, got, want)
		}
	}
}

// wrong answers an error at a point.
type wrong struct {
	facts.Facts
	at api.Point
}

func (w wrong) Subs(p api.Point) ([]api.Sub, api.Errno) {
	if p == w.at {
		return nil, api.ErrSum
	}
	return w.Facts.Subs(p)
}

// P26.1: errors.
func TestErrors(t *testing.T) {
	s := parse(t, text)
	book := facts.NewBook(tuples(t, said))
	p := points("doc:1#viewer")[0]
	bad := parse(t, "type a\nr = b")
	for _, c := range []struct {
		s    api.Schema
		f    facts.Facts
		most int
		e    api.Errno
	}{
		{bad, book, 100, api.ErrName}, {bad, nil, 0, api.ErrName}, {s, nil, 0, api.ErrArg}, {s, book, 0, api.ErrLong}, {s, book, -1, api.ErrLong},
		{s, facts.At(nil, 0), 100, api.ErrRev},
		{s, wrong{book, points("doc:1#parent")[0]}, 100, api.ErrSum},
		{s, wrong{book, points("group:2#member")[0]}, 100, api.ErrSum},
		{s, wrong{book, points("doc:1#blocked")[0]}, 100, api.OK},
		{s, (*facts.Book)(nil), 2, api.OK},
	} {
		if g, e := reach.Walk(c.s, c.f, nil, p, c.most); e != c.e || e != api.OK && !reflect.DeepEqual(g, api.Graph{}) {
			t.Errorf("%d: %d, want %d", c.most, e, c.e)
		}
	}
}

// twice tells each subject twice, and keeps what it answers.
type twice struct {
	facts.Facts
	row []api.Sub
}

func (w twice) Subs(api.Point) ([]api.Sub, api.Errno) { return w.row, api.OK }

// P26.1: each point stands once in one row; the answer is new memory.
func TestOnce(t *testing.T) {
	s := parse(t, text)
	f := twice{facts.NewBook(nil), subs("folder:1 folder:2 folder:1")}
	g, e := reach.Walk(s, f, nil, points("doc:1#viewer")[0], 100)
	if e != api.OK || !slices.Equal(g.Forms[0].Parts[0].Refs, []int{1, 2}) {
		t.Fatal(g, e)
	}
	g.Forms[0].Parts[1].Parts[0].Subs[0].Rel = "changed"
	if f.row[0].Rel != "" {
		t.Fatal("the answer shares memory")
	}
}

func TestPoints(t *testing.T) {
	g := api.Graph{Points: points("b:1#a a:2#b a:10#b a:2#a a:1#z")}
	got := reach.Points(g)
	if !slices.Equal(got, points("a:1#z a:10#b a:2#a a:2#b b:1#a")) {
		t.Error(got)
	}
	if g.Points[0] != points("b:1#a")[0] || len(reach.Points(api.Graph{})) != 0 {
		t.Error("what was handed in is changed")
	}
}
