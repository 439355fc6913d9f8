package expand_test

import (
	"reflect"
	"slices"
	"strings"
	"testing"

	"sentry/api"
	"sentry/expand"
	"sentry/facts"
	"sentry/order"
	"sentry/worlds"
)

// write writes a tree: kind, point, then subjects or parts in brackets.
func write(n api.Node) string {
	kind := []string{"cut", "this", "same", "via", "union", "both"}[n.Kind]
	s := kind + " " + n.Obj.Type + n.Obj.ID + n.Rel
	var l []string
	for _, x := range n.Subs {
		l = append(l, x.Obj.Type+x.Obj.ID+x.Rel)
	}
	for _, p := range n.Parts {
		l = append(l, write(p))
	}
	if len(l) > 0 {
		s += " [" + strings.Join(l, ", ") + "]"
	}
	return s
}

var sample = worlds.World{
	Schema: worlds.Schema("type u", "type f", "p = this", "o = this", "v = o | p->v", "type d", "p = this", "o = this", "v = p->v & (this | o)", "w = v", "r = r"),
	Tuples: worlds.Tuples("d:1#p@f:1 d:1#p@f:2 d:1#p@f:2#o d:1#v@u:1 d:1#v@d:1#o d:1#o@u:3 d:1#o@u:2 f:1#o@u:1 f:2#p@f:1 f:2#p@u:9 d:2#p@d:2"),
}

// P28.1: trees to the letter.
func TestTree(t *testing.T) {
	cases := []struct {
		point, shut string
		depth       int
		want        string
		size        int
	}{
		{"d:1#v", "", 0, "cut d1v", 1},
		{"d:1#none", "", 0, "cut d1none", 1},
		{"d:1#none", "", 1, "union d1none", 1},
		{"none:1#v", "", 5, "union none1v", 1},
		{"d:1#o", "", 1, "this d1o [u2, u3]", 1},
		{"d:1#o", "d:x#o", 1, "union d1o", 1},
		{"d:9#o", "", 1, "this d9o", 1},
		{"d:1#w", "", 1, "same d1w [cut d1v]", 2},
		{"d:1#r", "", 3, "same d1r [same d1r [same d1r [cut d1r]]]", 4},
		{"d:1#v", "", 1, "both d1v [via d1v [cut f1v, cut f2v], union d1v [this d1v [d1o, u1], same d1v [cut d1o]]]", 8},
		{"d:1#v", "", 2, "both d1v [via d1v [union f1v [same f1v [cut f1o], via f1v], union f2v [same f2v [cut f2o], via f2v [cut f1v, cut u9v]]], union d1v [this d1v [d1o, u1], same d1v [this d1o [u2, u3]]]]", 16},
		{"d:1#v", "d:x#p f:x#v", 2, "both d1v [via d1v [union f1v, union f2v], union d1v [this d1v [d1o, u1], same d1v [this d1o [u2, u3]]]]", 8},
		{"f:2#v", "f:x#o", 2, "union f2v [same f2v [union f2o], via f2v [union f1v [same f1v [cut f1o], via f1v], union u9v]]", 9},
		{"d:2#v", "", 2, "both d2v [via d2v [both d2v [via d2v [cut d2v], union d2v [this d2v, same d2v [cut d2o]]]], union d2v [this d2v, same d2v [this d2o]]]", 13},
	}
	for _, c := range cases {
		var shut []api.Ref
		for _, w := range strings.Fields(c.shut) {
			p := worlds.Point(w)
			shut = append(shut, api.Ref{Type: p.Obj.Type, Rel: p.Rel})
		}
		n, e := expand.Tree(sample.Schema, facts.NewBook(sample.Tuples), shut, worlds.Point(c.point), c.depth, c.size)
		if e != api.OK || write(n) != c.want || expand.Size(n) != c.size {
			t.Errorf("%s, depth %d: %s %d %d", c.point, c.depth, write(n), expand.Size(n), e)
		}
		if n, e := expand.Tree(sample.Schema, facts.NewBook(sample.Tuples), shut, worlds.Point(c.point), c.depth, c.size-1); e != api.ErrLong || !reflect.DeepEqual(n, api.Node{}) {
			t.Errorf("%s: too long: %d", c.point, e)
		}
	}
}

// P28.1: errors.
func TestErrors(t *testing.T) {
	bad := worlds.Schema("type a", "r = x")
	book := facts.NewBook(sample.Tuples)
	p := worlds.Point("d:1#v")
	for i, c := range []struct {
		s           api.Schema
		f           facts.Facts
		depth, most int
		e           api.Errno
	}{
		{bad, nil, -1, 0, api.ErrName}, {sample.Schema, nil, 3, 0, api.ErrArg}, {sample.Schema, book, -1, 0, api.ErrArg}, {sample.Schema, book, api.MaxDepth + 1, 99, api.ErrArg},
		{sample.Schema, book, api.MaxDepth, 1000, api.OK}, {sample.Schema, book, 0, 0, api.ErrLong}, {sample.Schema, book, 0, -1, api.ErrLong}, {sample.Schema, book, 0, 1, api.OK},
		{sample.Schema, facts.At(nil, 0), 1, 99, api.ErrRev}, {sample.Schema, facts.At(nil, 0), 0, 99, api.OK}, {sample.Schema, (*facts.Book)(nil), 2, 99, api.OK},
	} {
		if n, e := expand.Tree(c.s, c.f, nil, p, c.depth, c.most); e != c.e || e != api.OK && !reflect.DeepEqual(n, api.Node{}) {
			t.Errorf("%d: %d, want %d", i, e, c.e)
		}
	}
}

// twice tells each subject twice, and keeps what it answers.
type twice struct {
	facts.Facts
	row []api.Sub
}

func (w twice) Subs(api.Point) ([]api.Sub, api.Errno) { return w.row, api.OK }

// P28.1: each object stands once below a Via; the answer is new memory.
func TestOnce(t *testing.T) {
	f := twice{facts.NewBook(nil), []api.Sub{worlds.Sub("f:1"), worlds.Sub("f:2"), worlds.Sub("f:1"), worlds.Sub("f:3#o")}}
	n, _ := expand.Tree(sample.Schema, f, nil, worlds.Point("d:1#v"), 1, 99)
	if got := write(n.Parts[0]); got != "via d1v [cut f1v, cut f2v]" {
		t.Error(got)
	}
	n, _ = expand.Tree(sample.Schema, f, nil, worlds.Point("d:1#o"), 1, 99)
	n.Subs[0].Rel = "changed"
	if f.row[0].Rel != "" {
		t.Error("the answer shares memory")
	}
}

// holds asks whether a node holds, as the promise tells it.
func holds(n api.Node, sub api.Sub, in map[api.Point]int) bool {
	has := func(o api.Obj, rel string) bool { return in[api.Point{Obj: o, Rel: rel}] > 0 }
	part := func(p api.Node) bool { return holds(p, sub, in) }
	switch n.Kind {
	case 0:
		return has(n.Obj, n.Rel)
	case api.This:
		return slices.ContainsFunc(n.Subs, func(s api.Sub) bool { return s == sub || s.Rel != "" && has(s.Obj, s.Rel) })
	case api.Both:
		return !slices.ContainsFunc(n.Parts, func(p api.Node) bool { return !part(p) })
	}
	return slices.ContainsFunc(n.Parts, part)
}

// P28.2, and what is gathered of trees.
func TestWorlds(t *testing.T) {
	told := 0
	for seed := range worlds.Draw(60) {
		d := seed*17 + 5
		w := d.World(30)
		book := facts.NewBook(w.Tuples)
		for _, p := range worlds.Points() {
			n, e := expand.Tree(w.Schema, book, w.Shut, p, d.Next(4), 100000)
			if e != api.OK {
				t.Fatal(e)
			}
			for _, sub := range worlds.Subs() {
				in := w.In(sub)
				if holds(n, sub, in) != (in[p] > 0) {
					t.Fatalf("seed %d: %v of %v: %s", seed, sub, p, write(n))
				}
				told += min(in[p], 1)
			}
			gathered(t, n)
		}
	}
	if told < 500 {
		t.Fatal("the worlds are too empty:", told)
	}
}

// gathered holds Size, Leaves and Cuts against a walk of its own.
func gathered(t *testing.T, n api.Node) {
	t.Helper()
	size := 0
	var leaves []api.Sub
	var cuts []api.Point
	var walk func(n api.Node)
	walk = func(n api.Node) {
		size++
		if n.Kind == api.This {
			leaves = append(leaves, n.Subs...)
		}
		if n.Kind == 0 {
			cuts = append(cuts, api.Point{Obj: n.Obj, Rel: n.Rel})
		}
		for _, p := range n.Parts {
			walk(p)
		}
	}
	walk(n)
	if expand.Size(n) != size || !slices.Equal(expand.Leaves(n), order.Once(leaves, order.Subs)) || !slices.Equal(expand.Cuts(n), order.Once(cuts, order.Points)) {
		t.Fatal(write(n))
	}
}

// P28.1: any nodes.
func TestGather(t *testing.T) {
	n := api.Node{Kind: api.Union, Subs: []api.Sub{worlds.Sub("u:9")}, Parts: []api.Node{
		{Kind: api.This, Subs: []api.Sub{worlds.Sub("u:2"), worlds.Sub("g:1#m"), worlds.Sub("u:1"), worlds.Sub("u:10"), worlds.Sub("g:1")}},
		{Obj: api.Obj{Type: "d", ID: "2"}, Rel: "v", Subs: []api.Sub{worlds.Sub("u:8")}},
		{Obj: api.Obj{Type: "d", ID: "10"}, Rel: "v"},
		{Kind: 77, Parts: []api.Node{{Obj: api.Obj{Type: "d", ID: "2"}, Rel: "v"}, {Kind: api.This, Subs: []api.Sub{worlds.Sub("u:2")}}}},
	}}
	var leaves, cuts []string
	for _, s := range expand.Leaves(n) {
		leaves = append(leaves, s.Obj.Type+s.Obj.ID+s.Rel)
	}
	for _, p := range expand.Cuts(n) {
		cuts = append(cuts, p.Obj.Type+p.Obj.ID+p.Rel)
	}
	if expand.Size(n) != 7 || strings.Join(leaves, " ") != "g1 g1m u1 u10 u2" || strings.Join(cuts, " ") != "d10v d2v" {
		t.Error(expand.Size(n), leaves, cuts)
	}
	if n.Parts[0].Subs[0] != worlds.Sub("u:2") {
		t.Error("what was handed in is changed")
	}
	if expand.Size(api.Node{}) != 1 || len(expand.Leaves(api.Node{})) != 0 || len(expand.Cuts(api.Node{})) != 1 {
		t.Error("one node")
	}
}
