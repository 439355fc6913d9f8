package bulk_test

import (
	"slices"
	"testing"

	"sentry/api"
	"sentry/bulk"
	"sentry/check"
	"sentry/facts"
	"sentry/worlds"
)

// asks are all asks of a world, some of them twice, in no order.
func asks(d *worlds.Draw) []api.Ask {
	points, subs := worlds.Points(), worlds.Subs()
	var l []api.Ask
	for range 120 {
		l = append(l, api.Ask{Point: points[d.Next(len(points))], Sub: subs[d.Next(len(subs))]})
	}
	return l
}

// P32.1, P32.2: as if each were asked alone.
func TestWorlds(t *testing.T) {
	told, come, gone := 0, 0, 0
	for seed := range worlds.Draw(60) {
		d := seed*37 + 2
		w := d.World(60)
		other := worlds.World{Schema: w.Schema, Tuples: append(slices.Clone(w.Tuples[len(w.Tuples)/2:]), d.Tuples(10)...), Shut: w.Shut}
		f, g := facts.NewBook(w.Tuples), facts.NewBook(other.Tuples)
		l := asks(&d)
		got, e := bulk.Many(w.Schema, f, w.Shut, l, 1000)
		if e != api.OK || len(got) != len(l) {
			t.Fatal(e)
		}
		var wantCome, wantGone []api.Ask
		for i, a := range l {
			alone, _ := check.Has(w.Schema, f, w.Shut, a, 1000)
			if got[i] != alone {
				t.Fatalf("seed %d: %v: %t", seed, a, got[i])
			}
			later, _ := check.Has(w.Schema, g, w.Shut, a, 1000)
			if later && !alone {
				wantCome = append(wantCome, a)
			}
			if alone && !later {
				wantGone = append(wantGone, a)
			}
			if alone {
				told++
			}
		}
		c, n, e := bulk.Diff(w.Schema, f, g, w.Shut, l, 1000)
		if e != api.OK || !slices.Equal(c, wantCome) || !slices.Equal(n, wantGone) {
			t.Fatalf("seed %d: %v %v %d", seed, c, n, e)
		}
		come, gone = come+len(c), gone+len(n)
		points, subs := worlds.Points()[5:14], worlds.Subs()[:5]
		grid, e := bulk.Grid(w.Schema, f, w.Shut, points, subs, 1000)
		if e != api.OK || len(grid) != len(points) {
			t.Fatal(e)
		}
		for i, p := range points {
			if len(grid[i]) != len(subs) {
				t.Fatal("a row's length")
			}
			for j, s := range subs {
				if alone, _ := check.Has(w.Schema, f, w.Shut, api.Ask{Point: p, Sub: s}, 1000); alone != grid[i][j] {
					t.Fatal(p, s)
				}
			}
		}
	}
	if told < 100 || come < 50 || gone < 50 {
		t.Fatal("the worlds are too empty:", told, come, gone)
	}
}

// wrong answers an error at a point.
type wrong struct {
	facts.Facts
	at  api.Point
	err api.Errno
}

func (w wrong) Subs(p api.Point) ([]api.Sub, api.Errno) {
	if p == w.at {
		return nil, w.err
	}
	return w.Facts.Subs(p)
}

// P32.1: errors.
func TestErrors(t *testing.T) {
	s := worlds.Schema("type user", "type doc", "a = this", "b = this", "c = a | b", "d = c")
	bad := worlds.Schema("type a", "type a")
	book := facts.NewBook(worlds.Tuples("doc:1#a@user:1"))
	a, b, c, d := worlds.Point("doc:1#a"), worlds.Point("doc:1#b"), worlds.Point("doc:1#c"), worlds.Point("doc:1#d")
	u := worlds.Sub("user:1")
	row := func(l ...api.Point) []api.Ask {
		var asks []api.Ask
		for _, p := range l {
			asks = append(asks, api.Ask{Point: p, Sub: u})
		}
		return asks
	}
	sum, short := wrong{book, b, api.ErrSum}, wrong{wrong{book, b, api.ErrSum}, a, api.ErrShort}
	for i, x := range []struct {
		s    api.Schema
		f    facts.Facts
		l    []api.Point
		most int
		e    api.Errno
	}{
		{bad, nil, nil, 0, api.ErrExists}, {s, nil, nil, 0, api.ErrArg}, {s, book, nil, 0, api.OK}, {s, facts.At(nil, 0), nil, 0, api.OK},
		{bad, nil, list(a), 9, api.ErrExists}, {s, nil, list(a), 9, api.ErrArg}, {s, book, list(a), 0, api.ErrLong}, {s, facts.At(nil, 0), list(a), 9, api.ErrRev},
		{s, book, list(a, b, c), 3, api.OK}, {s, book, list(a, b, c, d), 3, api.ErrLong}, {s, sum, list(a, a), 9, api.OK}, {s, sum, list(a, d, b), 3, api.ErrLong}, {s, sum, list(a, b, d), 3, api.ErrSum},
		{s, short, list(b, a), 9, api.ErrSum}, {s, short, list(a, b), 9, api.ErrShort}, {s, short, list(c), 9, api.ErrShort},
	} {
		got, e := bulk.Many(x.s, x.f, nil, row(x.l...), x.most)
		if e != x.e || e != api.OK && len(got) != 0 || e == api.OK && len(got) != len(x.l) {
			t.Errorf("%d: many: %v %d, want %d", i, got, e, x.e)
		}
		grid, e := bulk.Grid(x.s, x.f, nil, x.l, []api.Sub{u, u}, x.most)
		if e != x.e || e != api.OK && len(grid) != 0 || e == api.OK && len(grid) != len(x.l) {
			t.Errorf("%d: grid: %v %d, want %d", i, grid, e, x.e)
		}
		for _, y := range [][2]facts.Facts{{x.f, book}, {x.f, x.f}} {
			come, gone, e := bulk.Diff(x.s, y[0], y[1], nil, row(x.l...), x.most)
			if e != x.e || len(come)+len(gone) != 0 && e != api.OK {
				t.Errorf("%d: diff: %d, want %d", i, e, x.e)
			}
		}
	}
	if _, _, e := bulk.Diff(s, sum, short, nil, row(b), 9); e != api.ErrSum {
		t.Error(e)
	}
	if _, _, e := bulk.Diff(s, book, short, nil, row(a), 9); e != api.ErrShort {
		t.Error(e)
	}
	if _, _, e := bulk.Diff(s, book, nil, nil, nil, 9); e != api.ErrArg {
		t.Error(e)
	}
	if grid, e := bulk.Grid(s, book, nil, list(a, b), nil, 9); e != api.OK || len(grid) != 2 || len(grid[0])+len(grid[1]) != 0 {
		t.Error(grid, e)
	}
}

func list(l ...api.Point) []api.Point { return l }
