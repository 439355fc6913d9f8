package facts_test

import (
	"cmp"
	"slices"
	"strings"
	"testing"

	"sentry/api"
	"sentry/disk"
	"sentry/facts"
	"sentry/index"
	"sentry/store"
	"sentry/tuple"
)

func parse(t *testing.T, s string) api.Tuple {
	t.Helper()
	x, e := tuple.Parse(s)
	if e != api.OK {
		t.Fatal(s)
	}
	return x
}

func tuples(t *testing.T, text string) []api.Tuple {
	t.Helper()
	var l []api.Tuple
	for _, w := range strings.Fields(text) {
		l = append(l, parse(t, w))
	}
	return l
}

func point(typ, id, rel string) api.Point {
	return api.Point{Obj: api.Obj{Type: typ, ID: id}, Rel: rel}
}
func sub(typ, id, rel string) api.Sub { return api.Sub{Obj: api.Obj{Type: typ, ID: id}, Rel: rel} }

const sample = "doc:1#viewer@user:2 doc:1#viewer@group:1#member doc:1#viewer@group:1 doc:1#viewer@user:10 doc:1#owner@user:2 doc:10#viewer@user:2 do:1#viewer@user:2 " +
	"group:1#member@user:2 group:1#member@group:2#member user:2#friend@user:3 doc:1-#viewer@user:2 doc-:1#viewer@doc:1#viewer doc:9#parent@folder:7 group:2#member@group:1#member"

// P25.1: facts out of a list or a store.
func each(t *testing.T, l []api.Tuple, check func(what string, f facts.Facts)) {
	t.Helper()
	check("book", facts.NewBook(l))
	for _, flush := range []bool{false, true} {
		s, e := store.Open(disk.New(1<<20), api.Setup{Split: 80, Bits: 10})
		if e != api.OK {
			t.Fatal(e)
		}
		for i, x := range l {
			entries, e := index.Entries([]api.Write{{Tuple: x}})
			if e != api.OK {
				continue
			}
			if _, e := s.Commit(entries); e != api.OK {
				t.Fatal(e)
			}
			if flush && i%3 == 0 && s.Flush() != api.OK {
				t.Fatal("flush")
			}
		}
		check("snap", facts.At(s, s.Head()))
	}
}

// P25.1, P25.2: what is said, against the plain list.
func TestFacts(t *testing.T) {
	l := tuples(t, sample)
	slices.Reverse(l)
	l = append(l, l[3], l[0], api.Tuple{}, api.Tuple{Obj: api.Obj{Type: "doc", ID: "1"}, Rel: "viewer", Sub: sub("User", "1", "")})
	good := tuples(t, sample)
	slices.SortFunc(good, tuple.Cmp)
	texts := []string{"", "doc", "do", "doc-", "user", "group", "folder", "none", "1", "1-", "2", "10", "7", "viewer", "member", "owner", "friend", "parent", "doc\x001", "\x00"}
	each(t, l, func(what string, f facts.Facts) {
		t.Helper()
		for _, typ := range texts {
			var want []api.Obj
			for _, x := range good {
				for _, o := range []api.Obj{x.Obj, x.Sub.Obj} {
					if o.Type == typ && !slices.Contains(want, o) {
						want = append(want, o)
					}
				}
			}
			slices.SortFunc(want, func(a, b api.Obj) int { return cmp.Compare(a.ID, b.ID) })
			if got, e := f.Objects(typ); e != api.OK || !slices.Equal(got, want) {
				t.Fatalf("%s: objects of %q: %v %d, want %v", what, typ, got, e, want)
			}
			for _, id := range texts {
				for _, rel := range texts {
					p, s := point(typ, id, rel), sub(typ, id, rel)
					var subs []api.Sub
					var points []api.Point
					for _, x := range good {
						if x.Obj == p.Obj && x.Rel == p.Rel {
							subs = append(subs, x.Sub)
						}
						if x.Sub == s {
							points = append(points, api.Point{Obj: x.Obj, Rel: x.Rel})
						}
					}
					if got, e := f.Subs(p); e != api.OK || !slices.Equal(got, subs) {
						t.Fatalf("%s: subs of %v: %v %d, want %v", what, p, got, e, subs)
					}
					if got, e := f.Points(s); e != api.OK || !slices.Equal(got, points) {
						t.Fatalf("%s: points of %v: %v %d, want %v", what, s, got, e, points)
					}
				}
			}
		}
	})
}

// P25.1: what a snap tells besides.
func TestSnap(t *testing.T) {
	s, _ := store.Open(disk.New(1<<20), api.Setup{Split: 100})
	for _, w := range strings.Fields("+doc:1#viewer@user:1 +doc:2#viewer@user:1 -doc:1#viewer@user:1 +doc:1#owner@user:2 +group:1#viewer@user:1") {
		entries, _ := index.Entries([]api.Write{{Del: w[0] == '-', Tuple: parse(t, w[1:])}})
		if _, e := s.Commit(entries); e != api.OK {
			t.Fatal(e)
		}
	}
	s.SetFloor(1)
	at := []string{1: "doc:1#viewer@user:1", 2: "doc:1#viewer@user:1 doc:2#viewer@user:1", 3: "doc:2#viewer@user:1", 4: "doc:1#owner@user:2 doc:2#viewer@user:1", 5: "doc:1#owner@user:2 doc:2#viewer@user:1 group:1#viewer@user:1"}
	for rev := uint64(1); rev <= 5; rev++ {
		x := facts.At(s, rev)
		all := tuples(t, at[rev])
		for _, f := range []api.Filter{{}, {Type: "doc"}, {ID: "1"}, {Rel: "viewer"}, {Type: "doc", ID: "1"}, {Type: "doc", Rel: "viewer"}, {Type: "doc", ID: "2", Rel: "viewer"}, {ID: "1", Rel: "viewer"}, {Type: "none"}, {Type: "do"}, {Type: "doc\x001"}, {ID: "\x00"}} {
			var want []api.Tuple
			for _, y := range all {
				if tuple.Match(f, y) {
					want = append(want, y)
				}
			}
			if got, e := x.Tuples(f); e != api.OK || !slices.Equal(got, want) {
				t.Errorf("at %d, %v: %v %d, want %v", rev, f, got, e, want)
			}
		}
		for _, text := range strings.Fields("doc:1#viewer@user:1 doc:2#viewer@user:1 doc:1#owner@user:2 group:1#viewer@user:1 doc:1#viewer@user:1#viewer none:1#viewer@user:1") {
			y := parse(t, text)
			if has, e := x.Has(y); e != api.OK || has != slices.Contains(all, y) {
				t.Errorf("at %d, %s: %t %d", rev, text, has, e)
			}
		}
		if has, e := x.Has(api.Tuple{}); has || e != api.OK {
			t.Error("a tuple that may not be:", has, e)
		}
	}
	for what, x := range map[string]facts.Snap{"below": facts.At(s, 0), "above": facts.At(s, 6), "nil": facts.At(nil, 0), "zero": {}} {
		l, e1 := x.Subs(point("doc", "1", "viewer"))
		m, e2 := x.Points(sub("user", "1", ""))
		n, e3 := x.Objects("doc")
		o, e4 := x.Tuples(api.Filter{})
		has, e5 := x.Has(parse(t, "doc:1#viewer@user:1"))
		bad, e6 := x.Has(api.Tuple{})
		for i, e := range []api.Errno{e1, e2, e3, e4, e5, e6} {
			if e != api.ErrRev {
				t.Errorf("%s: call %d: %d", what, i, e)
			}
		}
		if len(l)+len(m)+len(n)+len(o) != 0 || has || bad {
			t.Errorf("%s: something is told", what)
		}
	}
}

// P25.1: of a snap the tuples are those whose forward key is there, whatever keys there are beside them.
func TestOddKeys(t *testing.T) {
	s, _ := store.Open(disk.New(1<<20), api.Setup{Split: 100})
	a, b := parse(t, "doc:1#viewer@user:1"), parse(t, "doc:2#viewer@user:1")
	ka, _ := index.Keys(a)
	kb, _ := index.Keys(b)
	if _, e := s.Commit([]api.Entry{{Key: ka[0]}, {Key: kb[1]}, {Key: ""}, {Key: "f"}, {Key: "fdoc\x001\x00viewer\x00rest"}, {Key: "fx"}, {Key: "g"}, {Key: "zzz"}}); e != api.OK {
		t.Fatal(e)
	}
	x := facts.At(s, 1)
	if l, e := x.Tuples(api.Filter{}); e != api.OK || !slices.Equal(l, []api.Tuple{a}) {
		t.Error(l, e)
	}
	if l, e := x.Subs(point("doc", "1", "viewer")); e != api.OK || !slices.Equal(l, []api.Sub{a.Sub}) {
		t.Error(l, e)
	}
	if l, e := x.Points(a.Sub); e != api.OK || !slices.Equal(l, []api.Point{point("doc", "1", "viewer")}) {
		t.Error(l, e)
	}
	if l, e := x.Objects("doc"); e != api.OK || !slices.Equal(l, []api.Obj{a.Obj}) {
		t.Error(l, e)
	}
	if has, e := x.Has(b); has || e != api.OK {
		t.Error(has, e)
	}
	if has, e := x.Has(api.Tuple{}); has || e != api.OK {
		t.Error(has, e)
	}
}

// P25.1: books share nothing with what was handed in and out; a nil one has no tuples.
func TestBook(t *testing.T) {
	l := tuples(t, "doc:1#viewer@user:1 doc:1#viewer@user:2")
	b := facts.NewBook(l)
	l[0].Rel = "changed"
	for range 2 {
		subs, _ := b.Subs(point("doc", "1", "viewer"))
		points, _ := b.Points(sub("user", "1", ""))
		objs, _ := b.Objects("user")
		if len(subs) != 2 || len(points) != 1 || len(objs) != 2 || subs[0].Obj.ID != "1" || points[0].Rel != "viewer" || objs[0].ID != "1" {
			t.Fatal(subs, points, objs)
		}
		subs[0].Obj.ID, points[0].Rel, objs[0].ID = "x", "x", "x"
	}
	odd := []api.Tuple{l[1], {}, l[1], {Rel: "x"}}
	before := slices.Clone(odd)
	if facts.NewBook(odd); !slices.Equal(odd, before) {
		t.Error("what was handed in is changed")
	}
	var none *facts.Book
	for _, b := range []*facts.Book{none, facts.NewBook(nil), facts.NewBook([]api.Tuple{{}})} {
		subs, e1 := b.Subs(point("doc", "1", "viewer"))
		points, e2 := b.Points(sub("user", "1", ""))
		objs, e3 := b.Objects("user")
		empty, e4 := b.Subs(api.Point{})
		if len(subs)+len(points)+len(objs)+len(empty) != 0 || e1 != api.OK || e2 != api.OK || e3 != api.OK || e4 != api.OK {
			t.Error("no tuples")
		}
	}
}
