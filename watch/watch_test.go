package watch_test

import (
	"slices"
	"strconv"
	"strings"
	"testing"

	"sentry/api"
	"sentry/disk"
	"sentry/facts"
	"sentry/index"
	"sentry/store"
	"sentry/tuple"
	"sentry/watch"
	"sentry/worlds"
)

// writes reads "+doc:1#viewer@user:1 -doc:2#viewer@user:1".
func writes(text string) []api.Write {
	var l []api.Write
	for _, w := range strings.Fields(text) {
		l = append(l, api.Write{Del: w[0] == '-', Tuple: worlds.Tuples(w[1:])[0]})
	}
	return l
}

// print prints events.
func print(events []api.Event) string {
	var l []string
	for _, x := range events {
		s, _ := tuple.Print(x.Write.Tuple)
		sign := "+"
		if x.Write.Del {
			sign = "-"
		}
		l = append(l, strconv.Itoa(int(x.Rev))+sign+s)
	}
	return strings.Join(l, " ")
}

func lay(t *testing.T, batches ...[]api.Write) *store.Store {
	t.Helper()
	s, e := store.Open(disk.New(1<<22), api.Setup{Split: 200, Draws: []byte{1, 0, 3, 0, 1, 7}})
	if e != api.OK {
		t.Fatal(e)
	}
	for i, l := range batches {
		entries, _ := index.Entries(l)
		if _, e := s.Commit(entries); e != api.OK {
			t.Fatal(e)
		}
		if i%4 == 3 {
			s.Flush()
		}
	}
	return s
}

func sample(t *testing.T) *store.Store {
	return lay(t,
		writes("+d:1#v@u:2 +d:1#v@u:1 +e:1#v@u:1"),
		writes("-d:1#v@u:2 +d:1#v@u:1 -d:9#v@u:9"),
		writes("-none:1#v@u:1"),
		writes("+d:2#v@u:1 -e:1#v@u:1 +d:1#v@u:2 -d:1#v@u:1 +c:1#w@u:1"),
		writes("+d:1#o@u:1"),
	)
}

// P34.1: events.
func TestChanges(t *testing.T) {
	s := sample(t)
	one := "1+d:1#v@u:1 1+d:1#v@u:2 1+e:1#v@u:1"
	two := " 2-d:1#v@u:2"
	four := " 4+c:1#w@u:1 4-d:1#v@u:1 4+d:1#v@u:2 4+d:2#v@u:1 4-e:1#v@u:1"
	five := " 5+d:1#o@u:1"
	for _, c := range []struct {
		from, to uint64
		f        api.Filter
		most     int
		want     string
		told     uint64
	}{
		{0, 5, api.Filter{}, 0, one + two + four + five, 5},
		{0, 5, api.Filter{}, -7, one + two + four + five, 5},
		{0, 0, api.Filter{}, 0, "", 0}, {3, 3, api.Filter{}, 1, "", 3}, {5, 5, api.Filter{}, 0, "", 5},
		{0, 1, api.Filter{}, 0, one, 1}, {1, 4, api.Filter{}, 0, two + four, 4}, {2, 3, api.Filter{}, 0, "", 3}, {4, 5, api.Filter{}, 9, five, 5},
		{0, 5, api.Filter{}, 1, one, 1}, {0, 5, api.Filter{}, 3, one, 1}, {0, 5, api.Filter{}, 4, one + two, 2}, {0, 5, api.Filter{}, 5, one + two + four, 4}, {0, 5, api.Filter{}, 9, one + two + four, 4}, {0, 5, api.Filter{}, 10, one + two + four + five, 5},
		{1, 5, api.Filter{}, 1, two, 2}, {2, 5, api.Filter{}, 1, four, 4},
		{0, 5, api.Filter{Type: "e"}, 0, "1+e:1#v@u:1 4-e:1#v@u:1", 5}, {0, 5, api.Filter{Type: "e"}, 2, "1+e:1#v@u:1 4-e:1#v@u:1", 4}, {0, 5, api.Filter{Rel: "o"}, 0, five, 5}, {0, 5, api.Filter{Type: "d", ID: "2"}, 1, "4+d:2#v@u:1", 4}, {0, 5, api.Filter{Type: "none"}, 1, "", 5},
	} {
		got, told, e := watch.Changes(s, c.from, c.to, c.f, c.most)
		if e != api.OK || told != c.told || print(got) != strings.TrimSpace(c.want) {
			t.Errorf("%v: %q %d %d", c, print(got), told, e)
		}
	}
	for _, c := range [][2]uint64{{0, 6}, {6, 6}, {3, 2}, {6, 5}} {
		if got, told, e := watch.Changes(s, c[0], c[1], api.Filter{}, 0); e != api.ErrRev || told != 0 || len(got) != 0 {
			t.Error(c, told, e)
		}
	}
	s.SetFloor(3)
	for from, want := range map[uint64]api.Errno{0: api.ErrRev, 2: api.ErrRev, 3: api.OK} {
		if _, _, e := watch.Changes(s, from, 4, api.Filter{}, 0); e != want {
			t.Error(from, e)
		}
	}
	for _, to := range []uint64{0, 1} {
		if got, told, e := watch.Changes(nil, 0, to, api.Filter{}, 0); e != api.ErrRev || told != 0 || len(got) != 0 {
			t.Error(e)
		}
	}
}

// P34.1: events done to tuples.
func TestApply(t *testing.T) {
	events := func(text string) []api.Event {
		var l []api.Event
		for i, w := range writes(text) {
			l = append(l, api.Event{Rev: uint64(9 - i), Write: w})
		}
		return l
	}
	l := append(worlds.Tuples("d:2#v@u:1 d:1#v@u:1 d:2#v@u:1"), api.Tuple{})
	for text, want := range map[string]string{
		"":           "d:1#v@u:1 d:2#v@u:1",
		"+d:1#v@u:2": "d:1#v@u:1 d:1#v@u:2 d:2#v@u:1",
		"-d:1#v@u:1": "d:2#v@u:1",
		"-d:1#v@u:1 -d:2#v@u:1 +e:1#v@u:1 +d:1#v@u:1 -e:1#v@u:1": "d:1#v@u:1",
	} {
		if got, e := watch.Apply(l, events(text)); e != api.OK || !slices.Equal(got, worlds.Tuples(want)) {
			t.Errorf("%q: %v %d", text, got, e)
		}
	}
	for text, want := range map[string]api.Errno{"+d:1#v@u:1": api.ErrExists, "-d:3#v@u:1": api.ErrMissing, "-d:1#v@u:1 -d:1#v@u:1": api.ErrMissing, "+e:1#v@u:1 +e:1#v@u:1": api.ErrExists, "+e:1#v@u:1 +d:2#v@u:1 -none:1#v@u:1": api.ErrExists} {
		if got, e := watch.Apply(l, events(text)); e != want || len(got) != 0 {
			t.Errorf("%q: %v %d", text, got, e)
		}
	}
	for _, del := range []bool{true, false} {
		if got, e := watch.Apply(l, []api.Event{{Write: api.Write{Del: del}}}); e != api.ErrName || len(got) != 0 {
			t.Error(got, e)
		}
	}
	if l[0] != worlds.Tuples("d:2#v@u:1")[0] || len(l) != 4 {
		t.Error("what was handed in is changed")
	}
}

// P34.2: what was there becomes by all events what is there.
func TestBecomes(t *testing.T) {
	for seed := range worlds.Draw(12) {
		d := seed*43 + 5
		var batches [][]api.Write
		for range 15 {
			var l []api.Write
			tuples := d.Tuples(1 + d.Next(12))
			slices.SortFunc(tuples, tuple.Cmp)
			for _, x := range slices.Compact(tuples) {
				l = append(l, api.Write{Del: d.Next(3) == 0, Tuple: x})
			}
			batches = append(batches, l)
		}
		s := lay(t, batches...)
		for _, f := range []api.Filter{{}, {Type: "doc"}, {Rel: "viewer"}, {Type: "group", ID: "1"}} {
			for range 6 {
				from := uint64(d.Next(16))
				to := from + uint64(d.Next(16-int(from)))
				before, _ := facts.At(s, from).Tuples(f)
				after, _ := facts.At(s, to).Tuples(f)
				events, told, e := watch.Changes(s, from, to, f, 0)
				if e != api.OK || told != to {
					t.Fatal(told, e)
				}
				if got, e := watch.Apply(before, events); e != api.OK || !slices.Equal(got, after) {
					t.Fatalf("from %d to %d: %v %d", from, to, got, e)
				}
				var steps []api.Event
				for at := from; at < to; {
					l, told, e := watch.Changes(s, at, to, f, 1+d.Next(3))
					if e != api.OK || told <= at {
						t.Fatal(told, e)
					}
					steps, at = append(steps, l...), told
				}
				if !slices.Equal(steps, events) {
					t.Fatal("step by step it is something else")
				}
			}
		}
	}
}
