package compact_test

import (
	"slices"
	"strconv"
	"strings"
	"testing"

	"sentry/api"
	"sentry/codec"
	"sentry/compact"
	"sentry/disk"
	"sentry/edit"
	"sentry/store"
)

func tab(num, level int, first, last string) api.Table {
	return api.Table{Num: num, Level: level, Size: 1, First: first, Last: last}
}

// P23.1: what is taken.
func TestPick(t *testing.T) {
	v := api.Version{Next: 99, Tables: []api.Table{
		tab(11, 0, "k", "m"), tab(12, 0, "a", "b"), tab(13, 0, "x", "z"),
		tab(9, 1, "a", "a"), tab(8, 1, "b", "e"), tab(7, 1, "f", "l"), tab(6, 1, "m0", "n"), tab(5, 1, "q", "r"),
		tab(4, 2, "c", "c"), tab(3, 2, "d", "p"), tab(2, 2, "q", "q"),
		tab(21, 3, "a", "c"), tab(20, 3, "d", "z"),
	}}
	if edit.Check(v) != api.OK {
		t.Fatal("the version may not be")
	}
	for _, c := range []struct {
		level, pick int
		want        []int
		to          int
	}{
		{0, 0, []int{7, 11}, 1},
		{0, 1, []int{8, 9, 12}, 1},
		{0, 2, []int{13}, 1},
		{0, 3, []int{7, 11}, 1},
		{0, 301, []int{8, 9, 12}, 1},
		{1, 0, []int{9}, 2},
		{1, 1, []int{3, 4, 8}, 2},
		{1, 4, []int{2, 5}, 2},
		{2, 0, []int{4, 21}, 3},
		{2, 1, []int{3, 20}, 3},
		{3, 0, []int{21}, 3},
		{3, 5, []int{20}, 3},
	} {
		got, to, e := compact.Pick(v, c.level, c.pick)
		if e != api.OK || to != c.to || !slices.Equal(got, c.want) {
			t.Errorf("level %d, pick %d: %v %d %d, want %v", c.level, c.pick, got, to, e, c.want)
		}
	}
	// What is taken makes more to be taken.
	chain := api.Version{Next: 99, Tables: []api.Table{tab(1, 0, "m", "m"), tab(5, 1, "a", "b"), tab(4, 1, "bb", "g"), tab(3, 1, "j", "n"), tab(2, 1, "o", "p")}}
	if got, _, _ := compact.Pick(chain, 0, 0); !slices.Equal(got, []int{1, 3}) {
		t.Error(got)
	}
	odd := api.Version{Tables: []api.Table{tab(1, 0, "m", "m"), tab(5, 1, "a", "b"), tab(4, 1, "b", "g"), tab(3, 1, "g", "n"), tab(2, 1, "o", "p")}}
	if got, _, _ := compact.Pick(odd, 0, 0); !slices.Equal(got, []int{1, 3, 4, 5}) {
		t.Error(got)
	}
	over := api.Version{Tables: []api.Table{tab(1, 3, "a", "c"), tab(2, 3, "b", "d")}}
	if got, to, e := compact.Pick(over, 3, 0); !slices.Equal(got, []int{1}) || to != 3 || e != api.OK {
		t.Error("of the last level no other one is taken:", got)
	}
	for level := range api.MaxLevel {
		if got, to, e := compact.Pick(api.Version{Next: 1}, level, 3); len(got) != 0 || to != min(level+1, 3) || e != api.OK {
			t.Error(level, got, to, e)
		}
	}
	for _, c := range [][2]int{{-1, 0}, {4, 0}, {0, -1}, {9, -9}} {
		if got, to, e := compact.Pick(v, c[0], c[1]); len(got) != 0 || to != 0 || e != api.ErrArg {
			t.Error(c, got, to, e)
		}
	}
}

// P23.1: rows.
func TestCut(t *testing.T) {
	inner := func(key string, rev uint64) string { return codec.Inner(api.Entry{Key: key, Rev: rev}) }
	one := len(inner("a", 1))
	keys := []string{inner("a", 3), inner("a", 2), inner("b", 5), inner("c", 9), inner("c", 8), inner("c", 7), inner("d", 1)}
	for split, want := range map[int]string{-1: "2 1 3 1", 0: "2 1 3 1", 1: "2 1 3 1", one: "2 1 3 1", 2 * one: "2 4 1", 2*one + 1: "3 3 1", 3 * one: "3 3 1", 3*one + 1: "6 1", 6 * one: "6 1", 6*one + 1: "7", 1 << 20: "7"} {
		rows := compact.Cut(keys, split)
		var lens []string
		for _, r := range rows {
			lens = append(lens, strconv.Itoa(len(r)))
		}
		if strings.Join(lens, " ") != want || !slices.Equal(slices.Concat(rows...), keys) {
			t.Errorf("split %d: %v, want %s", split, lens, want)
		}
	}
	if rows := compact.Cut(nil, 5); len(rows) != 0 {
		t.Error(rows)
	}
	plain := []string{"aa", "ab", "b", "", "x"}
	if rows := compact.Cut(plain, 2); len(rows) != 3 || !slices.Equal(rows[2], []string{"b", "", "x"}) {
		t.Errorf("%q", rows)
	}
	for _, split := range []int{-3, 0, 1} {
		if rows := compact.Cut(plain, split); len(rows) != 4 || !slices.Equal(rows[2], []string{"b"}) || !slices.Equal(rows[3], []string{"", "x"}) {
			t.Errorf("split %d: %q", split, rows)
		}
	}
	rows := compact.Cut(plain, 1)
	rows[0][0] = "changed"
	if plain[0] != "aa" {
		t.Error("the answer shares memory")
	}
	rows[0] = append(rows[0], "more")
	if rows[1][0] != "ab" {
		t.Error("rows share memory")
	}
}

// draw is a row of numbers.
type draw uint32

func (d *draw) next(n int) int {
	*d = *d*1664525 + 1013904223
	return int(*d>>8) % n
}

// batch is some entries.
func (d *draw) batch() []api.Entry {
	l := []api.Entry{{Key: "always", Del: d.next(2) == 0}}
	for i := range 10 {
		if d.next(3) == 0 {
			l = append(l, api.Entry{Key: "k" + strconv.Itoa(i), Del: d.next(3) == 0})
		}
	}
	return l
}

func open(t *testing.T, d *disk.Disk, split int) *store.Store {
	t.Helper()
	s, e := store.Open(d, api.Setup{Split: split, Bits: 10, Draws: []byte{1, 0, 3, 0, 0, 1}})
	if e != api.OK {
		t.Fatal(e)
	}
	return s
}

// answers are what a store tells at each revision from its floor on.
func answers(t *testing.T, s *store.Store) [][]string {
	t.Helper()
	var l [][]string
	for rev := s.Floor(); rev <= s.Head(); rev++ {
		keys, e := s.Scan("", "", rev, 0)
		if e != api.OK {
			t.Fatal(e)
		}
		for i := range 10 {
			k := "k" + strconv.Itoa(i)
			if there, e := s.Get(k, rev); e != api.OK || there != slices.Contains(keys, k) {
				t.Fatal(k, rev, there, e)
			}
		}
		l = append(l, keys)
	}
	return l
}

func same(a, b [][]string) bool { return slices.EqualFunc(a, b, slices.Equal) }

// P23.2: no answer is changed by whatever is compacted.
func TestSame(t *testing.T) {
	for seed := range draw(40) {
		d := seed*13 + 1
		dsk := disk.New(1 << 22)
		s := open(t, dsk, 1+d.next(300))
		for range 50 {
			var e api.Errno
			switch before := answers(t, s); d.next(6) {
			case 0:
				if f := s.Floor() + uint64(d.next(4)); f <= s.Head() {
					e = s.SetFloor(f)
				}
			case 1, 2:
				e = compact.Run(s, d.next(4), d.next(9))
				if after := answers(t, s); !same(before, after) {
					t.Fatalf("seed %d: %q, then %q", seed, before, after)
				}
			case 3:
				if d.next(5) == 0 {
					e = compact.Full(s)
					if after := answers(t, s); !same(before, after) {
						t.Fatalf("seed %d, full: %q, then %q", seed, before, after)
					}
				}
			case 4:
				e = s.Flush()
			default:
				_, e = s.Commit(d.batch())
			}
			if e != api.OK {
				t.Fatal(e)
			}
		}
		if before := answers(t, s); !same(before, answers(t, open(t, dsk, 100))) {
			t.Fatal("opened again")
		}
	}
}

// P23.2: a key that is taken away stays so, while an older version of it lies in another table.
func TestTakenAway(t *testing.T) {
	s := open(t, disk.New(1<<20), 1)
	for _, l := range [][]api.Entry{{{Key: "a"}}, {{Key: "a", Del: true}}} {
		s.Commit(l)
		s.Flush()
	}
	s.SetFloor(2)
	for _, pick := range []int{1, 0} {
		if e := compact.Run(s, 0, pick); e != api.OK {
			t.Fatal(e)
		}
		if there, e := s.Get("a", 2); there || e != api.OK {
			t.Fatal("it is back", e)
		}
	}
}

// P23.1: what is taken lies at the bottom, though another table has keys ahead of it.
func TestBottom(t *testing.T) {
	for _, other := range []string{"a", "c"} {
		s := open(t, disk.New(1<<20), 1)
		for _, x := range []api.Entry{{Key: other}, {Key: "b", Del: true}} {
			s.Commit([]api.Entry{x})
			s.Flush()
		}
		s.SetFloor(2)
		if e := compact.Run(s, 0, 1); e != api.OK || len(s.Version().Tables) != 1 {
			t.Fatal(other, e, s.Version().Tables)
		}
	}
}

// P23.1: Run rewrites what Pick takes, cut by the setup's Split, at the bottom or not.
func TestRun(t *testing.T) {
	s := open(t, disk.New(1<<20), 1)
	put := func(l ...api.Entry) {
		if _, e := s.Commit(l); e != api.OK {
			t.Fatal(e)
		}
	}
	put(api.Entry{Key: "a"}, api.Entry{Key: "b"}, api.Entry{Key: "c"})
	put(api.Entry{Key: "a", Del: true}, api.Entry{Key: "b"})
	s.Flush()
	s.SetFloor(2)
	if e := compact.Run(s, 0, 7); e != api.OK {
		t.Fatal(e)
	}
	want := []api.Entry{{Key: "b", Rev: 2}, {Key: "c", Rev: 1}}
	check := func(level int) {
		t.Helper()
		tables := s.Version().Tables
		if len(tables) != len(want) {
			t.Fatal(tables)
		}
		for i, x := range tables {
			keys, e := s.Keys(x.Num)
			if e != api.OK || len(keys) != 1 || keys[0] != codec.Inner(want[i]) || x.Level != level {
				t.Fatal(x, keys, e)
			}
		}
	}
	check(1)
	for i, level := range []int{1, 1, 2, 2, 3, 3} {
		if e := compact.Run(s, level, i); e != api.OK {
			t.Fatal(e)
		}
	}
	check(3)
	put(api.Entry{Key: "b", Del: true})
	s.Flush()
	s.SetFloor(3)
	if e := compact.Run(s, 0, 0); e != api.OK {
		t.Fatal(e)
	}
	// Beneath lies an older one: what takes it away has to stay.
	if tables := s.Version().Tables; len(tables) != 3 || tables[0].Level != 1 {
		t.Fatal(tables)
	}
	if e := compact.Run(s, 2, 0); e != api.OK || len(s.Version().Tables) != 3 {
		t.Fatal("a level without tables", e)
	}
	for _, c := range [][2]int{{-1, 0}, {4, 0}, {0, -1}} {
		if e := compact.Run(s, c[0], c[1]); e != api.ErrArg {
			t.Error(c, e)
		}
	}
}

// P23.3: what is left behind a floor, and Full.
func TestFull(t *testing.T) {
	for seed := range draw(60) {
		d := seed*29 + 3
		s := open(t, disk.New(1<<22), 1+d.next(200))
		for range 5 + d.next(25) {
			s.Commit(d.batch())
			switch d.next(5) {
			case 0:
				s.Flush()
			case 1:
				compact.Run(s, d.next(4), d.next(3))
			}
		}
		f := uint64(d.next(int(s.Head()) + 1))
		if s.SetFloor(f) != api.OK || compact.Full(s) != api.OK {
			t.Fatal("full")
		}
		old := map[string]int{}
		var all []string
		for _, x := range s.Version().Tables {
			if x.Level != api.MaxLevel-1 {
				t.Fatal(x)
			}
			keys, e := s.Keys(x.Num)
			if e != api.OK {
				t.Fatal(e)
			}
			all = append(all, keys...)
			for _, k := range keys {
				y, _ := codec.Outer(k)
				if y.Rev <= f {
					old[y.Key]++
					if y.Del || old[y.Key] > 1 {
						t.Fatalf("floor %d: %v is left", f, y)
					}
				}
			}
		}
		if s.Version().Head != s.Head() || !slices.IsSorted(all) {
			t.Fatal("something isn't in tables")
		}
		for i, row := range compact.Cut(all, s.Split()) {
			if keys, _ := s.Keys(s.Version().Tables[i].Num); !slices.Equal(keys, row) {
				t.Fatal("rows")
			}
		}
	}
	s := open(t, disk.New(1<<20), 50)
	if e := compact.Full(s); e != api.OK || len(s.Version().Tables) != 0 {
		t.Fatal(e)
	}
}

func TestDown(t *testing.T) {
	d := disk.New(1 << 20)
	s := open(t, d, 50)
	s.Commit([]api.Entry{{Key: "a"}})
	s.Flush()
	d.Fuse(0)
	if e := compact.Run(s, 0, 0); e != api.ErrStore || !s.Down() {
		t.Fatal(e)
	}
	for _, x := range []*store.Store{s, nil} {
		if compact.Run(x, 0, 0) != api.ErrStore || compact.Run(x, 9, 0) != api.ErrStore || compact.Full(x) != api.ErrStore {
			t.Fatal("down")
		}
	}
}
