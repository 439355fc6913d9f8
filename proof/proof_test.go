package proof_test

import (
	"reflect"
	"slices"
	"strconv"
	"strings"
	"testing"

	"sentry/api"
	"sentry/facts"
	"sentry/proof"
	"sentry/reach"
	"sentry/rules"
	"sentry/worlds"
)

func ask(point, sub string) api.Ask {
	return api.Ask{Point: worlds.Point(point), Sub: worlds.Sub(sub)}
}

// parts are all parts of a rule.
func parts(r api.Rule) []api.Rule {
	l := []api.Rule{r}
	for _, p := range r.Parts {
		l = append(l, parts(p)...)
	}
	return l
}

func same(a, b api.Rule) bool {
	return a.Kind == b.Kind && a.A == b.A && a.B == b.B && slices.EqualFunc(a.Parts, b.Parts, same)
}

// isProof asks whether steps are a proof, sentence by sentence as the chapter tells it.
func isProof(w worlds.World, a api.Ask, l []api.Step) bool {
	said := func(p api.Point, s api.Sub) bool {
		return slices.Contains(w.Tuples, api.Tuple{Obj: p.Obj, Rel: p.Rel, Sub: s})
	}
	whole := func(st api.Step, p api.Point) bool {
		r, ok := rules.Find(w.Schema, p.Obj.Type, p.Rel)
		return ok && st.Point == p && same(st.Rule, r)
	}
	for i, st := range l {
		r, ok := rules.Find(w.Schema, st.Point.Obj.Type, st.Point.Rel)
		if !ok || slices.Contains(w.Shut, api.Ref{Type: st.Point.Obj.Type, Rel: st.Point.Rel}) {
			return false
		}
		if !slices.ContainsFunc(parts(r), func(p api.Rule) bool { return same(p, st.Rule) }) {
			return false
		}
		var by []api.Step
		for _, n := range st.By {
			if n < 0 || n >= i {
				return false
			}
			by = append(by, l[n])
		}
		one := len(by) == 1
		right := false
		switch st.Rule.Kind {
		case api.This:
			right = st.Sub == a.Sub && len(by) == 0 && said(st.Point, st.Sub) ||
				st.Sub.Rel != "" && said(st.Point, st.Sub) && one && whole(by[0], api.Point{Obj: st.Sub.Obj, Rel: st.Sub.Rel})
		case api.Same:
			right = st.Sub == api.Sub{} && one && whole(by[0], api.Point{Obj: st.Point.Obj, Rel: st.Rule.A})
		case api.Via:
			right = st.Sub.Rel == "" && said(api.Point{Obj: st.Point.Obj, Rel: st.Rule.A}, st.Sub) && one && whole(by[0], api.Point{Obj: st.Sub.Obj, Rel: st.Rule.B})
		case api.Union:
			right = st.Sub == api.Sub{} && one && by[0].Point == st.Point && slices.ContainsFunc(st.Rule.Parts, func(p api.Rule) bool { return same(p, by[0].Rule) })
		case api.Both:
			right = st.Sub == api.Sub{} && len(by) == len(st.Rule.Parts)
			for j := range by {
				right = right && by[j].Point == st.Point && same(by[j].Rule, st.Rule.Parts[j])
			}
		}
		if !right {
			return false
		}
	}
	return len(l) > 0 && whole(l[len(l)-1], a.Point)
}

// sound checks what is asked of a proof that is given, beside that it is one.
func sound(t *testing.T, w worlds.World, a api.Ask, l []api.Step) {
	t.Helper()
	named := map[int]bool{}
	for i, st := range l {
		for _, n := range st.By {
			named[n] = true
		}
		for _, other := range l[:i] {
			if other.Point == st.Point && same(other.Rule, st.Rule) {
				t.Fatalf("%v: two steps of one point and rule: %v", a, st)
			}
		}
	}
	for i := range l[:len(l)-1] {
		if !named[i] {
			t.Fatalf("%v: step %d isn't named", a, i)
		}
	}
	g, _ := reach.Walk(w.Schema, facts.NewBook(w.Tuples), w.Shut, a.Point, 1000)
	most := 0
	for _, p := range g.Points {
		if r, ok := rules.Find(w.Schema, p.Obj.Type, p.Rel); ok {
			most += len(parts(r))
		}
	}
	if len(l) > most {
		t.Fatalf("%v: %d steps, at most %d", a, len(l), most)
	}
}

// spoil changes something in a proof.
func spoil(d *worlds.Draw, l []api.Step) []api.Step {
	var c []api.Step
	for _, st := range l {
		st.By = slices.Clone(st.By)
		c = append(c, st)
	}
	i := d.Next(len(c))
	points, subs := worlds.Points(), worlds.Subs()
	switch d.Next(9) {
	case 0:
		c[i].Sub = subs[d.Next(len(subs))]
	case 1:
		c[i].Point = points[d.Next(len(points))]
	case 2:
		c[i].Rule = c[d.Next(len(c))].Rule
	case 3:
		c[i].By = append(c[i].By, d.Next(len(c)+2)-1)
	case 4:
		if len(c[i].By) > 0 {
			c[i].By[d.Next(len(c[i].By))] = d.Next(len(c)+2) - 1
		}
	case 5:
		c = append(c[:i], c[i+1:]...)
	case 6:
		c[i].By = c[i].By[:len(c[i].By)/2]
	case 7:
		j := d.Next(len(c))
		c[i], c[j] = c[j], c[i]
	case 8:
		c = append(c, c[i])
	}
	return c
}

// P29.1, P29.2, P29.3: against the plain answers, and proofs that were spoilt.
func TestWorlds(t *testing.T) {
	told, spoilt := 0, 0
	for seed := range worlds.Draw(150) {
		d := seed*19 + 3
		w := d.World(45)
		book := facts.NewBook(w.Tuples)
		for _, sub := range worlds.Subs() {
			in := w.In(sub)
			for _, p := range worlds.Points() {
				a := api.Ask{Point: p, Sub: sub}
				l, has, e := proof.Prove(w.Schema, book, w.Shut, a, 1000)
				if e != api.OK || has != (in[p] > 0) || !has && len(l) != 0 {
					t.Fatalf("seed %d: %v: %t %d", seed, a, has, e)
				}
				right, e := proof.Verify(w.Schema, book, w.Shut, a, l)
				if right != has || right != isProof(w, a, l) || e != api.OK {
					t.Fatalf("seed %d: %v: %v is a proof: %t %d", seed, a, l, right, e)
				}
				if !has {
					continue
				}
				told++
				sound(t, w, a, l)
				for range 4 {
					bad := spoil(&d, l)
					right, e := proof.Verify(w.Schema, book, w.Shut, a, bad)
					if right != isProof(w, a, bad) || e != api.OK {
						t.Fatalf("seed %d: %v: spoilt %v: %t %d", seed, a, bad, right, e)
					}
					if !right {
						spoilt++
					}
				}
				other := api.Ask{Point: p, Sub: worlds.Sub("user:99")}
				if right, _ := proof.Verify(w.Schema, book, w.Shut, other, l); right {
					t.Fatal("a proof for somebody else")
				}
			}
		}
	}
	if told < 500 || spoilt < 500 {
		t.Fatal("the worlds are too empty:", told, spoilt)
	}
}

// P29.1: proofs to the letter, where there is but one.
func TestExamples(t *testing.T) {
	s := worlds.Schema("type user", "type group", "member = this", "type doc", "viewer = this", "owner = this & this", "all = group->member | viewer", "group = this")
	book := facts.NewBook(worlds.Tuples("doc:1#viewer@user:1 doc:2#viewer@group:1#member group:1#member@user:1 doc:3#owner@user:1 doc:4#group@group:1"))
	this := api.Rule{Kind: api.This}
	all, _ := rules.Find(s, "doc", "all")
	both, _ := rules.Find(s, "doc", "owner")
	step := func(point string, r api.Rule, sub string, by ...int) api.Step {
		st := api.Step{Point: worlds.Point(point), Rule: r, By: by}
		if sub != "" {
			st.Sub = worlds.Sub(sub)
		}
		return st
	}
	for point, want := range map[string][]api.Step{
		"doc:1#viewer": {step("doc:1#viewer", this, "user:1")},
		"doc:2#viewer": {step("group:1#member", this, "user:1"), step("doc:2#viewer", this, "group:1#member", 0)},
		"doc:3#owner":  {step("doc:3#owner", this, "user:1"), step("doc:3#owner", both, "", 0, 0)},
		"doc:1#all":    {step("doc:1#viewer", this, "user:1"), step("doc:1#all", all.Parts[1], "", 0), step("doc:1#all", all, "", 1)},
		"doc:4#all":    {step("group:1#member", this, "user:1"), step("doc:4#all", all.Parts[0], "group:1", 0), step("doc:4#all", all, "", 1)},
		"doc:9#viewer": nil,
	} {
		got, has, e := proof.Prove(s, book, nil, ask(point, "user:1"), 10)
		if e != api.OK || has != (want != nil) || len(got) != len(want) {
			t.Fatal(point, got, has, e)
		}
		for i := range got {
			if got[i].Point != want[i].Point || got[i].Sub != want[i].Sub || !slices.Equal(got[i].By, want[i].By) || !same(got[i].Rule, want[i].Rule) {
				t.Errorf("%s: step %d: %v, want %v", point, i, got[i], want[i])
			}
		}
		if right, e := proof.Verify(s, book, nil, ask(point, "user:1"), want); right != (want != nil) || e != api.OK {
			t.Error(point, right, e)
		}
	}
	l, _, _ := proof.Prove(s, book, nil, ask("doc:1#all", "user:1"), 10)
	l[2].Rule.Parts[0].A = "changed"
	if _, e := reach.Walk(s, book, nil, worlds.Point("doc:1#all"), 10); e != api.OK {
		t.Error("the answer shares memory")
	}
}

// P29.2: a long row of groups, in a ring.
func TestLong(t *testing.T) {
	const n = 3000
	var l []string
	for i := range n {
		l = append(l, "group:"+strconv.Itoa(i)+"#member@group:"+strconv.Itoa((i+1)%n)+"#member")
	}
	s := worlds.Schema("type user", "type group", "member = this")
	book := facts.NewBook(worlds.Tuples(strings.Join(append(l, "group:"+strconv.Itoa(n-1)+"#member@user:1"), " ")))
	a := ask("group:0#member", "user:1")
	steps, has, e := proof.Prove(s, book, nil, a, n)
	if !has || e != api.OK || len(steps) != n {
		t.Fatal(len(steps), has, e)
	}
	if right, e := proof.Verify(s, book, nil, a, steps); !right || e != api.OK {
		t.Fatal(right, e)
	}
}

// P29.1: errors.
func TestErrors(t *testing.T) {
	s := worlds.Schema(worlds.Texts()[0])
	bad := worlds.Schema("type a", "type a")
	book := facts.NewBook(worlds.Tuples("doc:1#viewer@user:1"))
	a := ask("doc:1#viewer", "user:1")
	l, _, _ := proof.Prove(s, book, nil, a, 99)
	for _, c := range []struct {
		s     api.Schema
		f     facts.Facts
		most  int
		prove api.Errno
		check api.Errno
	}{
		{bad, nil, 0, api.ErrExists, api.ErrExists}, {s, nil, 99, api.ErrArg, api.ErrArg}, {s, book, 2, api.ErrLong, api.OK}, {s, book, 3, api.OK, api.OK}, {s, facts.At(nil, 0), 99, api.ErrRev, api.ErrRev},
	} {
		got, has, e := proof.Prove(c.s, c.f, nil, a, c.most)
		if e != c.prove || has != (e == api.OK) || !has && len(got) != 0 {
			t.Errorf("prove: %t %d, want %d", has, e, c.prove)
		}
		if right, e := proof.Verify(c.s, c.f, nil, a, l); e != c.check || right != (e == api.OK) {
			t.Errorf("verify: %t %d, want %d", right, e, c.check)
		}
	}
	if right, e := proof.Verify(s, book, nil, a, nil); right || e != api.OK {
		t.Error("no steps:", right, e)
	}
	if right, e := proof.Verify(s, book, []api.Ref{{Type: "doc", Rel: "viewer"}}, a, l); right || e != api.OK {
		t.Error("shut:", right, e)
	}
	before := slices.Clone(l)
	proof.Verify(s, book, nil, a, l)
	if !reflect.DeepEqual(before, l) {
		t.Error("what was handed in is changed")
	}
}
