package check_test

import (
	"slices"
	"strconv"
	"strings"
	"testing"

	"sentry/api"
	"sentry/check"
	"sentry/facts"
	"sentry/reach"
	"sentry/worlds"
)

func ask(point, sub string) api.Ask {
	return api.Ask{Point: worlds.Point(point), Sub: worlds.Sub(sub)}
}

// P27.1: forms.
func TestHolds(t *testing.T) {
	u, v := worlds.Sub("user:1"), worlds.Sub("user:2")
	this := func(refs ...int) api.Form { return api.Form{Kind: api.This, Subs: []api.Sub{v, u}, Refs: refs} }
	none := func(refs ...int) api.Form { return api.Form{Kind: api.This, Subs: []api.Sub{v}, Refs: refs} }
	of := func(kind int, parts ...api.Form) api.Form { return api.Form{Kind: kind, Parts: parts} }
	refs := func(kind int, refs ...int) api.Form { return api.Form{Kind: kind, Refs: refs} }
	in := []bool{false, true, false}
	for i, c := range []struct {
		f    api.Form
		want bool
	}{
		{api.Form{}, false}, {api.Form{Kind: 9, Subs: []api.Sub{u}, Refs: []int{1}}, false}, {api.Form{Subs: []api.Sub{u}, Refs: []int{1}}, false},
		{this(), true}, {none(), false}, {none(0, 2), false}, {none(0, 1), true}, {none(-1, 3, 99), false},
		{refs(api.Same, 1), true}, {refs(api.Same, 0), false}, {refs(api.Same), false}, {refs(api.Same, -1), false},
		{refs(api.Via, 0, 2), false}, {refs(api.Via, 2, 1), true}, {refs(api.Via, 3), false},
		{of(api.Union), false}, {of(api.Union, none(), this()), true}, {of(api.Union, none(), none(0)), false},
		{of(api.Both), true}, {of(api.Both, this(), none()), false}, {of(api.Both, this(), none(1)), true}, {of(api.Both, none(), this()), false},
		{of(api.Both, this(), of(api.Union, none(), of(api.Both, this(), refs(api.Same, 1)))), true}, {of(api.Both, this(), of(api.Union, none(), of(api.Both, this(), refs(api.Same, 0)))), false},
		{of(api.Union, api.Form{}, of(api.Both, api.Form{}, this())), false},
		{api.Form{Kind: api.Same, Subs: []api.Sub{u}}, false},
	} {
		if check.Holds(c.f, u, in) != c.want {
			t.Errorf("%d: %v", i, c.f)
		}
	}
	if check.Holds(none(1), u, nil) || !check.Holds(this(), u, nil) || check.Holds(this(), worlds.Sub("user:1#x"), nil) {
		t.Error("an empty set")
	}
}

// P27.1: rounds; the chapter's example.
func TestSolve(t *testing.T) {
	u := worlds.Sub("user:1")
	this := api.Form{Kind: api.This, Subs: []api.Sub{u}}
	same := func(refs ...int) api.Form { return api.Form{Kind: api.Same, Refs: refs} }
	both := func(l ...api.Form) api.Form { return api.Form{Kind: api.Both, Parts: l} }
	points := func(n int) []api.Point { return make([]api.Point, n) }
	for i, c := range []struct {
		g    api.Graph
		want []int
	}{
		{api.Graph{}, nil},
		{api.Graph{Points: points(3)}, []int{0, 0, 0}},
		{api.Graph{Forms: []api.Form{this}}, nil},
		{api.Graph{Points: points(3), Forms: []api.Form{same(1), same(2), this}}, []int{3, 2, 1}},
		{api.Graph{Points: points(2), Forms: []api.Form{same(2), this, this}}, []int{0, 1}},
		{api.Graph{Points: points(3), Forms: []api.Form{same(1), this}}, []int{2, 1, 0}},
		{api.Graph{Points: points(3), Forms: []api.Form{same(0), same(2), same(1)}}, []int{0, 0, 0}},
		{api.Graph{Points: points(4), Forms: []api.Form{both(same(1), same(3)), same(2), this, same(1)}}, []int{4, 2, 1, 3}},
		{api.Graph{Points: points(3), Forms: []api.Form{same(0, 1), same(2, 0), this}}, []int{3, 2, 1}},
		{api.Graph{Points: points(2), Forms: []api.Form{both(this, same(0)), both(this, same(-1, 7))}}, []int{0, 0}},
		{api.Graph{Points: points(2), Forms: []api.Form{both(), {Kind: api.Both, Parts: []api.Form{same(0)}}}}, []int{1, 2}},
	} {
		if got := check.Solve(c.g, u); !slices.Equal(got, c.want) {
			t.Errorf("%d: %v, want %v", i, got, c.want)
		}
	}
	w := worlds.World{Schema: worlds.Schema(worlds.Texts()[0]), Tuples: worlds.Tuples("doc:1#viewer@group:1#member group:1#member@user:1")}
	g, _ := reach.Walk(w.Schema, facts.NewBook(w.Tuples), nil, worlds.Point("doc:1#viewer"), 100)
	if got := check.Solve(g, u); got[0] != 2 {
		t.Error(got)
	}
}

// P27.1, P27.2, P27.3: against the plain answers.
func TestWorlds(t *testing.T) {
	told := 0
	for seed := range worlds.Draw(120) {
		d := seed*31 + 1
		w := d.World(40)
		book := facts.NewBook(w.Tuples)
		for _, sub := range worlds.Subs() {
			in := w.In(sub)
			more := worlds.World{Schema: w.Schema, Tuples: append(slices.Clone(w.Tuples), d.Tuples(3)...), Shut: w.Shut}
			shut := append(slices.Clone(w.Shut), d.Shut()...)
			for _, p := range worlds.Points() {
				a := api.Ask{Point: p, Sub: sub}
				has, e := check.Has(w.Schema, book, w.Shut, a, 1000)
				if e != api.OK || has != (in[p] > 0) {
					t.Fatalf("seed %d: %v: %t %d", seed, a, has, e)
				}
				g, _ := reach.Walk(w.Schema, book, w.Shut, p, 1000)
				for i, round := range check.Solve(g, sub) {
					if round != in[g.Points[i]] {
						t.Fatalf("seed %d: %v: point %v in round %d, want %d", seed, a, g.Points[i], round, in[g.Points[i]])
					}
				}
				if !has {
					if less, _ := check.Has(w.Schema, book, shut, a, 1000); less {
						t.Fatal("more relations are shut, and it has one more")
					}
					continue
				}
				told++
				if still, e := check.Has(w.Schema, facts.NewBook(more.Tuples), w.Shut, a, 1000); !still || e != api.OK {
					t.Fatal("more tuples, and it hasn't it any more")
				}
			}
		}
	}
	if told < 500 {
		t.Fatal("the worlds are too empty:", told)
	}
}

// P27.3: long rows and rings end, and don't take long.
func TestLong(t *testing.T) {
	const n = 20000
	var l []string
	for i := range n {
		l = append(l, "group:"+strconv.Itoa(i)+"#member@group:"+strconv.Itoa((i+1)%n)+"#member")
	}
	s := worlds.Schema("type user", "type group", "member = this")
	book := facts.NewBook(worlds.Tuples(strings.Join(l, " ")))
	if has, e := check.Has(s, book, nil, ask("group:0#member", "user:1"), n); has || e != api.OK {
		t.Fatal(has, e)
	}
	book = facts.NewBook(worlds.Tuples(strings.Join(append(l, "group:"+strconv.Itoa(n-1)+"#member@user:1"), " ")))
	if has, e := check.Has(s, book, nil, ask("group:0#member", "user:1"), n); !has || e != api.OK {
		t.Fatal(has, e)
	}
	if has, e := check.Has(s, book, nil, ask("group:0#member", "user:1"), n-1); has || e != api.ErrLong {
		t.Fatal(has, e)
	}
}

// P27.1: Walk's errors.
func TestErrors(t *testing.T) {
	s := worlds.Schema(worlds.Texts()[0])
	a := ask("doc:1#viewer", "user:1")
	for _, c := range []struct {
		s    api.Schema
		f    facts.Facts
		most int
		e    api.Errno
	}{
		{worlds.Schema("type a", "type a"), nil, 0, api.ErrExists}, {s, nil, 9, api.ErrArg}, {s, facts.NewBook(nil), 0, api.ErrLong}, {s, facts.NewBook(nil), 2, api.ErrLong}, {s, facts.NewBook(nil), 3, api.OK}, {s, facts.At(nil, 3), 9, api.ErrRev},
	} {
		if has, e := check.Has(c.s, c.f, nil, a, c.most); has || e != c.e {
			t.Errorf("%d: %t %d, want %d", c.most, has, e, c.e)
		}
	}
}
