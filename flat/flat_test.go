package flat_test

import (
	"cmp"
	"slices"
	"strconv"
	"testing"

	"sentry/api"
	"sentry/flat"
	"sentry/worlds"
)

// plain are the members of a point, by going from tuple to tuple.
func plain(l []api.Tuple, p api.Point) []api.Sub {
	var subs []api.Sub
	points := []api.Point{p}
	for i := 0; i < len(points); i++ {
		for _, t := range l {
			if t.Obj != points[i].Obj || t.Rel != points[i].Rel {
				continue
			}
			if !slices.Contains(subs, t.Sub) {
				subs = append(subs, t.Sub)
			}
			next := api.Point{Obj: t.Sub.Obj, Rel: t.Sub.Rel}
			if t.Sub.Rel != "" && !slices.Contains(points, next) {
				points = append(points, next)
			}
		}
	}
	slices.SortFunc(subs, func(a, b api.Sub) int {
		return cmp.Or(cmp.Compare(a.Obj.Type, b.Obj.Type), cmp.Compare(a.Obj.ID, b.Obj.ID), cmp.Compare(a.Rel, b.Rel))
	})
	return subs
}

// tells holds a flat against a list of tuples.
func tells(t *testing.T, f *flat.Flat, l []api.Tuple) {
	t.Helper()
	if f.Len() != len(l) {
		t.Fatal(f.Len(), len(l))
	}
	var points []api.Point
	var subs []api.Sub
	for _, x := range append(slices.Clone(l), worlds.Tuples("none:1#none@none:1#none none:1#x@user:1")...) {
		points = append(points, api.Point{Obj: x.Obj, Rel: x.Rel}, api.Point{Obj: x.Sub.Obj, Rel: x.Sub.Rel})
		subs = append(subs, x.Sub, api.Sub{Obj: x.Obj, Rel: x.Rel})
	}
	holders := map[api.Sub][]api.Point{}
	seen := map[api.Point]bool{}
	for _, p := range points {
		want := plain(l, p)
		if got := f.Members(p); !slices.Equal(got, want) {
			t.Fatalf("members of %v: %v, want %v", p, got, want)
		}
		for _, s := range subs {
			if f.Has(p, s) != slices.Contains(want, s) {
				t.Fatalf("%v of %v: %t", s, p, f.Has(p, s))
			}
		}
		for _, s := range want {
			if !seen[p] {
				holders[s] = append(holders[s], p)
			}
		}
		seen[p] = true
	}
	for _, s := range subs {
		want := holders[s]
		slices.SortFunc(want, func(a, b api.Point) int {
			return cmp.Or(cmp.Compare(a.Obj.Type, b.Obj.Type), cmp.Compare(a.Obj.ID, b.Obj.ID), cmp.Compare(a.Rel, b.Rel))
		})
		if got := f.Points(s); !slices.Equal(got, want) {
			t.Fatalf("points of %v: %v, want %v", s, got, want)
		}
	}
}

// P31.1, P31.2: whatever comes and goes, in whatever order.
func TestFlat(t *testing.T) {
	pool := worlds.Tuples("group:1#member@group:2#member group:2#member@group:3#member group:3#member@group:1#member group:3#member@user:3 group:2#member@user:2 group:1#member@user:1 " +
		"group:1#member@group:1#member doc:1#viewer@group:1#member doc:1#viewer@user:1 doc:2#viewer@doc:1#viewer group:10#member@group:2#member group:4#member@group:4#member group:4#member@user:1 doc:1#viewer@group:1 group:1#other@user:7 doc:3#viewer@group:1#other")
	for seed := range worlds.Draw(60) {
		d := seed*41 + 7
		f := flat.New()
		var l []api.Tuple
		for range 60 {
			x := pool[d.Next(len(pool))]
			i := slices.Index(l, x)
			if d.Next(3) > 0 {
				want := api.OK
				if i >= 0 {
					want = api.ErrExists
				} else {
					l = append(l, x)
				}
				if e := f.Add(x); e != want {
					t.Fatal(x, e)
				}
			} else {
				want := api.OK
				if i < 0 {
					want = api.ErrMissing
				} else {
					l = slices.Delete(l, i, i+1)
				}
				if e := f.Drop(x); e != want {
					t.Fatal(x, e)
				}
			}
			tells(t, f, l)
		}
	}
}

// P31.1: the chapter's example; tuples that may not be.
func TestExample(t *testing.T) {
	f := flat.New()
	tells(t, f, nil)
	l := worlds.Tuples("group:1#member@group:2#member group:2#member@user:3")
	for _, x := range l {
		if e := f.Add(x); e != api.OK {
			t.Fatal(e)
		}
	}
	if !f.Has(worlds.Point("group:1#member"), worlds.Sub("user:3")) || f.Has(worlds.Point("group:2#member"), worlds.Sub("group:2#member")) {
		t.Fatal("members")
	}
	bad := l[0]
	bad.Rel = ""
	if f.Add(bad) != api.ErrName || f.Add(api.Tuple{}) != api.ErrName || f.Drop(bad) != api.ErrMissing {
		t.Fatal("a tuple that may not be")
	}
	tells(t, f, l)
	got := f.Members(worlds.Point("group:1#member"))
	got[0].Rel = "changed"
	other := flat.New()
	other.Add(l[0])
	tells(t, f, l)
}

// P31.1: long rows and rings.
func TestLong(t *testing.T) {
	const n = 200
	f := flat.New()
	for i := range n {
		x := worlds.Tuples("group:" + strconv.Itoa(i*7%n) + "#member@group:" + strconv.Itoa((i*7+1)%n) + "#member")
		if f.Add(x[0]) != api.OK {
			t.Fatal(i)
		}
	}
	f.Add(worlds.Tuples("group:5#member@user:1")[0])
	if l := f.Members(worlds.Point("group:6#member")); len(l) != n+1 {
		t.Fatal(len(l))
	}
	f.Drop(worlds.Tuples("group:5#member@group:6#member")[0])
	if l := f.Members(worlds.Point("group:6#member")); len(l) != n {
		t.Fatal(len(l))
	}
	if l := f.Points(worlds.Sub("group:6#member")); len(l) != 0 {
		t.Fatal(l)
	}
}

func TestNil(t *testing.T) {
	var f *flat.Flat
	x := worlds.Tuples("doc:1#viewer@user:1")[0]
	if f.Add(x) != api.ErrArg || f.Add(api.Tuple{}) != api.ErrArg || f.Drop(x) != api.ErrArg || f.Has(worlds.Point("doc:1#viewer"), x.Sub) || f.Len() != 0 || len(f.Members(worlds.Point("doc:1#viewer"))) != 0 || len(f.Points(x.Sub)) != 0 {
		t.Fatal("a nil flat has something")
	}
}
