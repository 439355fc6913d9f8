package store_test

import (
	"slices"
	"strconv"
	"strings"
	"testing"

	"sentry/api"
	"sentry/codec"
	"sentry/disk"
	"sentry/drop"
	"sentry/edit"
	"sentry/files"
	"sentry/frame"
	"sentry/merge"
	"sentry/store"
	"sentry/table"
	"sentry/wal"
)

var setup = api.Setup{Split: 60, Bits: 10, Draws: []byte{1, 0, 3, 7, 0, 0, 1}}

func open(t *testing.T, d *disk.Disk, o api.Setup) *store.Store {
	t.Helper()
	s, e := store.Open(d, o)
	if e != api.OK {
		t.Fatalf("open: %d", e)
	}
	wanted(t, d)
	return s
}

// wanted checks that the disk has no files but those that count (P22.4).
func wanted(t *testing.T, d *disk.Disk) {
	t.Helper()
	v, num, e := files.Load(d)
	if extra := files.Extra(d, v, num); e != api.OK || len(extra) != 0 {
		t.Fatalf("extra files %q, %d", extra, e)
	}
	for _, x := range v.Tables {
		if b, e := d.Read(files.Name('t', x.Num)); e != api.OK || len(b) != x.Size {
			t.Fatalf("table %d: %d", x.Num, e)
		}
	}
}

// entries reads "+a -b" as entries.
func entries(text string) []api.Entry {
	var l []api.Entry
	for _, w := range strings.Fields(text) {
		l = append(l, api.Entry{Key: w[1:], Del: w[0] == '-'})
	}
	return l
}

func commit(t *testing.T, s *store.Store, texts ...string) {
	t.Helper()
	for _, text := range texts {
		if _, e := s.Commit(entries(text)); e != api.OK {
			t.Fatalf("%s: %d", text, e)
		}
	}
}

// at is what is there at a revision of a history.
func at(history []string, rev uint64) []string {
	keys := map[string]bool{}
	for _, text := range history[:rev] {
		for _, x := range entries(text) {
			keys[x.Key] = !x.Del
		}
	}
	var l []string
	for k, there := range keys {
		if there {
			l = append(l, k)
		}
	}
	slices.Sort(l)
	return l
}

// tells holds a store against a history and a floor.
func tells(t *testing.T, s *store.Store, history []string, floor uint64) {
	t.Helper()
	head := uint64(len(history))
	if s.Head() != head || s.Floor() != floor {
		t.Fatalf("head %d, floor %d, want %d, %d", s.Head(), s.Floor(), head, floor)
	}
	for rev := uint64(0); rev <= head+1; rev++ {
		got, e := s.Scan("", "", rev, 0)
		there, e2 := s.Get("a", rev)
		if rev < floor || rev > head {
			if e != api.ErrRev || e2 != api.ErrRev || len(got) != 0 || there {
				t.Fatalf("at %d: %d %d", rev, e, e2)
			}
			continue
		}
		want := at(history, rev)
		if e != api.OK || !slices.Equal(got, want) {
			t.Fatalf("at %d: %q %d, want %q", rev, got, e, want)
		}
		for _, k := range []string{"a", "b", "c", "none", "k1", "k7", ""} {
			if there, e := s.Get(k, rev); e != api.OK || there != slices.Contains(want, k) {
				t.Fatalf("get of %q at %d: %t %d", k, rev, there, e)
			}
		}
	}
}

// P22.1: the chapter's example, and a first history.
func TestFirst(t *testing.T) {
	d := disk.New(1 << 20)
	s := open(t, d, api.Setup{})
	if s.Head() != 0 || s.Floor() != 0 || s.Split() != 1 || s.Down() || len(s.Version().Tables) != 0 {
		t.Fatal("an empty store")
	}
	tells(t, s, nil, 0)
	history := []string{"+a +b", "-a +c", "-none", "+a", "+a"}
	for i, text := range history {
		if rev, e := s.Commit(entries(text)); rev != uint64(i+1) || e != api.OK {
			t.Fatal(rev, e)
		}
		tells(t, s, history[:i+1], 0)
	}
	for _, c := range []struct {
		from, to string
		most     int
		want     string
	}{{"", "", 0, "a b c"}, {"b", "", 0, "b c"}, {"", "b", 0, "a"}, {"a", "c", 0, "a b"}, {"", "", 2, "a b"}, {"", "", -1, "a b c"}, {"c", "b", 0, ""}} {
		if got, e := s.Scan(c.from, c.to, 5, c.most); e != api.OK || !slices.Equal(got, strings.Fields(c.want)) {
			t.Errorf("%v: %q %d", c, got, e)
		}
	}
}

// P22.1: the setup's Split.
func TestSplit(t *testing.T) {
	for split, want := range map[int]int{-5: 1, 0: 1, 1: 1, 2: 2, 700: 700} {
		if s := open(t, disk.New(1<<20), api.Setup{Split: split}); s.Split() != want {
			t.Error(split, s.Split())
		}
	}
	if (*store.Store)(nil).Split() < 1 {
		t.Error("a nil store's Split is at least 1")
	}
}

// P22.1: commits that may not be.
func TestCommitErrors(t *testing.T) {
	s := open(t, disk.New(1<<24), setup)
	many := func(n int) []api.Entry {
		var l []api.Entry
		for i := range n {
			l = append(l, api.Entry{Key: strconv.Itoa(i)})
		}
		return l
	}
	long := []api.Entry{{Key: "a"}, {Key: strings.Repeat("k", 65537)}}
	for i, c := range []struct {
		l []api.Entry
		e api.Errno
	}{
		{nil, api.ErrArg}, {many(4*api.MaxBatch + 1), api.ErrArg}, {long, api.ErrArg}, {append(long, long[0]), api.ErrArg},
		{entries("+a +b -a"), api.ErrExists}, {[]api.Entry{{Key: "a", Rev: 1}, {Key: "a", Rev: 2}}, api.ErrExists},
	} {
		if rev, e := s.Commit(c.l); e != c.e || rev != 0 {
			t.Errorf("%d: %d", i, e)
		}
	}
	tells(t, s, nil, 0)
	if s.Down() {
		t.Fatal("down")
	}
	in := many(4 * api.MaxBatch)
	in[3].Rev = 77
	for _, l := range [][]api.Entry{in, {{Key: strings.Repeat("k", 65536)}}, {{Key: ""}}} {
		if _, e := s.Commit(l); e != api.OK {
			t.Fatal(e)
		}
	}
	if in[3].Rev != 77 || in[0].Rev != 0 {
		t.Fatal("what was handed in is changed")
	}
	if got, e := s.Scan("", "1", 3, 0); e != api.OK || !slices.Equal(got, []string{"", "0"}) {
		t.Fatal(got, e)
	}
}

// P22.1: floors.
func TestFloor(t *testing.T) {
	for _, flush := range []bool{false, true} {
		d := disk.New(1 << 20)
		s := open(t, d, setup)
		history := []string{"+a", "-a +b", "+c", "+a", "-c"}
		for i, text := range history {
			commit(t, s, text)
			if flush && i == 2 && s.Flush() != api.OK {
				t.Fatal("flush")
			}
		}
		if e := s.SetFloor(6); e != api.ErrRev {
			t.Fatal(e)
		}
		for _, f := range []uint64{0, 2, 2, 4, 5} {
			if e := s.SetFloor(f); e != api.OK {
				t.Fatal(f, e)
			}
			tells(t, s, history, f)
			tells(t, open(t, clone(t, d), setup), history, f)
		}
		if e := s.SetFloor(4); e != api.ErrRev || s.Floor() != 5 {
			t.Fatal(e)
		}
		if v := s.Version(); v.Floor != 5 || v.Head != 5 {
			t.Fatal(v)
		}
	}
}

// clone is a disk with the same files.
func clone(t *testing.T, d *disk.Disk) *disk.Disk {
	t.Helper()
	c := disk.New(1 << 24)
	for _, name := range d.List() {
		b, _ := d.Read(name)
		if c.Create(name) != api.OK || c.Append(name, b) != api.OK || c.Sync(name) != api.OK {
			t.Fatal(name)
		}
	}
	c.SyncDir()
	return c
}

// P22.1: flushes and tables.
func TestFlush(t *testing.T) {
	d := disk.New(1 << 20)
	s := open(t, d, setup)
	if e := s.Flush(); e != api.OK || len(s.Version().Tables) != 0 {
		t.Fatal("nothing to flush", e)
	}
	history := []string{"+a +b", "-a", "+c", "+a"}
	commit(t, s, history[:2]...)
	if e := s.Flush(); e != api.OK {
		t.Fatal(e)
	}
	commit(t, s, history[2:]...)
	if e := s.Flush(); e != api.OK {
		t.Fatal(e)
	}
	v := s.Version()
	if edit.Check(v) != api.OK || len(v.Tables) != 2 || v.Head != 4 {
		t.Fatal(v)
	}
	want := [][]api.Entry{{{Key: "a", Rev: 2, Del: true}, {Key: "a", Rev: 1}, {Key: "b", Rev: 1}}, {{Key: "a", Rev: 4}, {Key: "c", Rev: 3}}}
	for i, x := range v.Tables {
		keys, e := s.Keys(x.Num)
		if e != api.OK || x.Level != 0 || x.First != keys[0] || x.Last != keys[len(keys)-1] {
			t.Fatal(x, keys, e)
		}
		for j, k := range keys {
			if y, _ := codec.Outer(k); y != want[i][j] {
				t.Fatal(i, y)
			}
		}
		b, _ := d.Read(files.Name('t', x.Num))
		if built, _ := table.Build(keys, setup.Split, setup.Bits); !slices.Equal(b, built) || x.Size != len(b) {
			t.Fatal("a table's bytes")
		}
	}
	v.Tables[0].First = "changed"
	if s.Version().Tables[0].First == "changed" {
		t.Fatal("the answer shares memory")
	}
	for _, n := range []int{-1, 0, 99, v.Tables[1].Num + 1} {
		if keys, e := s.Keys(n); e != api.ErrMissing || len(keys) != 0 {
			t.Fatal(n, e)
		}
	}
	tells(t, s, history, 0)
	tells(t, open(t, d, api.Setup{Split: 1, Bits: 1}), history, 0)
	tells(t, open(t, d, api.Setup{Split: 1 << 20, Bits: 40}), history, 0)
}

// P22.1: tables that take the place of others.
func TestReplace(t *testing.T) {
	d := disk.New(1 << 20)
	s := open(t, d, setup)
	history := []string{"+a +b", "-a", "+c", "+a"}
	for _, text := range history {
		commit(t, s, text)
		s.Flush()
	}
	v := s.Version()
	var rows [][]string
	var nums []int
	for _, x := range v.Tables {
		keys, _ := s.Keys(x.Num)
		rows, nums = append(rows, keys), append(nums, x.Num)
	}
	whole, _ := merge.All(rows...)
	for i, c := range []struct {
		level int
		rows  [][]string
		drop  []int
	}{
		{1, [][]string{whole, nil}, nums}, {1, [][]string{{"x"}}, nums}, {1, [][]string{{whole[1], whole[0]}}, nums}, {1, [][]string{{whole[0], whole[0]}}, nums},
		{1, nil, []int{99}}, {1, nil, []int{nums[0], nums[0]}}, {4, [][]string{whole}, nums}, {-1, [][]string{whole}, nums}, {1, [][]string{whole[:2], whole[1:]}, nums}, {1, [][]string{whole[2:], whole}, nums}, {1, nil, []int{-1}},
	} {
		if e := s.Replace(c.level, c.rows, c.drop); e != api.ErrArg {
			t.Errorf("%d: %d", i, e)
		}
		if !slices.Equal(s.Version().Tables, v.Tables) || s.Down() {
			t.Fatal("changed by what was refused")
		}
	}
	tells(t, s, history, 0)
	if e := s.Replace(0, nil, nil); e != api.OK || !slices.Equal(s.Version().Tables, v.Tables) {
		t.Fatal(e)
	}
	if e := s.Replace(2, [][]string{whole[:2], whole[2:]}, nums); e != api.OK {
		t.Fatal(e)
	}
	got := s.Version().Tables
	if len(got) != 2 || got[0].Level != 2 || got[1].Level != 2 || got[0].First != whole[0] || got[0].Last != whole[1] || got[1].First != whole[2] || got[1].Last != whole[len(whole)-1] {
		t.Fatal(got)
	}
	tells(t, s, history, 0)
	for _, n := range nums {
		if _, e := s.Keys(n); e != api.ErrMissing {
			t.Fatal(e)
		}
	}
	keys, _ := s.Keys(got[1].Num)
	if !slices.Equal(keys, whole[2:]) {
		t.Fatal(keys)
	}
	var each [][]string
	for _, k := range keys {
		each = append(each, []string{k})
	}
	if e := s.Replace(2, append(each, []string{codec.Inner(api.Entry{Key: "zz", Rev: 1, Del: true})}), []int{got[1].Num}); e != api.OK || len(s.Version().Tables) != len(keys)+2 {
		t.Fatal("many rows:", e)
	}
	tells(t, s, history, 0)
	nums = nil
	for _, x := range s.Version().Tables[1:] {
		nums = append(nums, x.Num)
	}
	if e := s.Replace(2, [][]string{keys}, nums); e != api.OK {
		t.Fatal(e)
	}
	got = s.Version().Tables
	if e := s.Replace(3, [][]string{keys}, []int{got[1].Num}); e != api.OK || s.Version().Tables[1].Level != 3 {
		t.Fatal(e)
	}
	commit(t, s, "+d")
	history = append(history, "+d")
	tells(t, s, history, 0)
	tells(t, open(t, d, setup), history, 0)
}

// P22.1: a history that other hands laid.
func TestByHand(t *testing.T) {
	history := []string{"+a +b", "-a", "+c", "+a", "-b", "+d"}
	record := func(rev int) []byte {
		l := entries(history[rev-1])
		for i := range l {
			l[i].Rev = uint64(rev)
		}
		b, _ := wal.Encode(api.Commit{Rev: uint64(rev), Entries: l})
		return b
	}
	put := func(d *disk.Disk, name string, parts ...[]byte) {
		if d.Create(name) != api.OK || d.Append(name, slices.Concat(parts...)) != api.OK || d.Sync(name) != api.OK || d.SyncDir() != api.OK {
			t.Fatal(name)
		}
	}
	keys := []string{codec.Inner(api.Entry{Key: "a", Rev: 2, Del: true}), codec.Inner(api.Entry{Key: "a", Rev: 1}), codec.Inner(api.Entry{Key: "b", Rev: 1})}
	b, _ := table.Build(keys, 1, 5)
	v := api.Version{Tables: []api.Table{{Num: 3, Level: 1, Size: len(b), First: keys[0], Last: keys[2]}}, Floor: 1, Head: 2, Log: 4, Next: 6}
	lay := func() *disk.Disk {
		d := disk.New(1 << 20)
		put(d, "t-3", b)
		if _, _, e := files.Start(d, v); e != api.OK {
			t.Fatal(e)
		}
		return d
	}
	for what, c := range map[string]struct {
		logs map[string][][]byte
		head int
	}{
		"no logs":              {nil, 2},
		"one log":              {map[string][][]byte{"w-4": {record(3), record(4)}}, 4},
		"what tables have":     {map[string][][]byte{"w-4": {record(1), record(2), record(3)}}, 3},
		"two logs":             {map[string][][]byte{"w-10": {record(5)}, "w-9": {record(3), record(4)}}, 5},
		"an empty log between": {map[string][][]byte{"w-4": {record(3)}, "w-5": {}, "w-77": {record(4)}}, 4},
		"an old log":           {map[string][][]byte{"w-3": {record(3)}, "w-4": nil}, 2},
		"a gap":                {map[string][][]byte{"w-4": {record(3)}, "w-5": {record(5), record(6)}}, 3},
		"nothing behind a gap": {map[string][][]byte{"w-4": {record(4)}, "w-5": {record(3)}}, 2},
		"torn":                 {map[string][][]byte{"w-4": {record(3), record(4)[:9]}, "w-5": {record(4)}}, 4},
		"twice":                {map[string][][]byte{"w-4": {record(3), record(4)}, "w-5": {record(3), record(4), record(5)}}, 5},
	} {
		d := lay()
		for name, parts := range c.logs {
			put(d, name, parts...)
		}
		put(d, "t-99", []byte("rest"))
		put(d, "m-50", []byte("rest"))
		put(d, "notes", []byte("rest"))
		s, e := store.Open(d, setup)
		if e != api.OK {
			t.Fatal(what, e)
		}
		wanted(t, d)
		tells(t, s, history[:c.head], 1)
		if v := s.Version(); v.Head != uint64(c.head) || len(v.Tables) != 1+min(c.head-2, 1) {
			t.Fatal(what, v)
		}
	}
	// No "current": nothing counts.
	d := lay()
	put(d, "w-9", record(1))
	d.Remove("current")
	tells(t, open(t, d, setup), nil, 0)
}

// P22.1: what can't be opened.
func TestOpenErrors(t *testing.T) {
	lay := func() (*disk.Disk, string, string) {
		d := disk.New(1 << 20)
		s := open(t, d, setup)
		commit(t, s, "+a +b +c +d", "+e")
		s.Flush()
		name, _ := d.Read("current")
		return d, files.Name('t', s.Version().Tables[0].Num), string(name)
	}
	change := func(d *disk.Disk, name string, b []byte) {
		d.Remove(name)
		d.Create(name)
		d.Append(name, b)
		d.Sync(name)
		d.SyncDir()
	}
	for what, c := range map[string]struct {
		do func(d *disk.Disk, table, manifest string)
		e  api.Errno
	}{
		"no table":       {func(d *disk.Disk, table, _ string) { d.Remove(table) }, api.ErrMissing},
		"no manifest":    {func(d *disk.Disk, _, manifest string) { d.Remove(manifest) }, api.ErrMissing},
		"a short table":  {func(d *disk.Disk, table, _ string) { change(d, table, []byte("x")) }, api.ErrShort},
		"a long table":   {func(d *disk.Disk, table, _ string) { d.Append(table, []byte("x")) }, api.ErrForm},
		"no name":        {func(d *disk.Disk, _, _ string) { change(d, "current", []byte("x")) }, api.ErrForm},
		"an empty one":   {func(d *disk.Disk, _, manifest string) { change(d, manifest, nil) }, api.ErrForm},
		"no edit":        {func(d *disk.Disk, _, manifest string) { d.Append(manifest, frame.Seal([]byte("x"))) }, api.ErrForm},
		"down":           {func(d *disk.Disk, _, _ string) { d.Fuse(0); d.SyncDir() }, api.ErrDown},
		"a wrong filter": {func(d *disk.Disk, table, _ string) { b, _ := d.Read(table); b[len(b)-30] ^= 1; change(d, table, b) }, api.ErrSum},
	} {
		d, table, manifest := lay()
		c.do(d, table, manifest)
		before := d.List()
		if s, e := store.Open(d, setup); e != c.e || s != nil {
			t.Errorf("%s: %d, want %d", what, e, c.e)
		}
		if !slices.Equal(before, d.List()) {
			t.Errorf("%s: files are removed", what)
		}
	}
	if s, e := store.Open(nil, setup); e != api.ErrDown || s != nil {
		t.Error(e)
	}
	if s, e := store.Open(disk.New(10), setup); e != api.ErrSpace || s != nil {
		t.Error(e)
	}
	d, name, _ := lay()
	b, _ := d.Read(name)
	b[10] ^= 1
	change(d, name, b)
	s, e := store.Open(d, setup)
	if e == api.OK {
		if _, e = s.Scan("", "", 2, 0); e != api.ErrSum {
			t.Error(e)
		}
		if there, e := s.Get("a", 2); e != api.ErrSum || there {
			t.Error(e)
		}
	}
}

// P22.1: a store that is down tells, but nothing is written.
func TestDown(t *testing.T) {
	history := []string{"+a +b", "-a", "+c"}
	calls := map[string]func(s *store.Store) api.Errno{
		"commit":  func(s *store.Store) api.Errno { _, e := s.Commit(entries("+z")); return e },
		"flush":   func(s *store.Store) api.Errno { return s.Flush() },
		"floor":   func(s *store.Store) api.Errno { return s.SetFloor(2) },
		"replace": func(s *store.Store) api.Errno { return s.Replace(1, nil, []int{s.Version().Tables[0].Num}) },
	}
	for what, call := range calls {
		d := disk.New(1 << 20)
		s := open(t, d, setup)
		commit(t, s, history[:2]...)
		s.Flush()
		commit(t, s, history[2])
		d.Fuse(0)
		if e := call(s); e != api.ErrStore || !s.Down() {
			t.Fatal(what, e)
		}
		tells(t, s, history, 0)
		for other, call := range calls {
			if e := call(s); e != api.ErrStore {
				t.Fatal(what, other, e)
			}
		}
		if s.SetFloor(0) != api.OK || s.SetFloor(4) != api.ErrRev {
			t.Fatal("a floor that is there, one that can't be")
		}
		if rev, e := s.Commit(nil); rev != 0 || e != api.ErrStore {
			t.Fatal(rev, e)
		}
		tells(t, s, history, 0)
		d.Crash(nil)
		tells(t, open(t, d, setup), history, 0)
	}
	d := disk.New(300)
	s := open(t, d, setup)
	if _, e := s.Commit([]api.Entry{{Key: strings.Repeat("k", 300)}}); e != api.ErrStore || !s.Down() {
		t.Fatal("no room:", e)
	}
	tells(t, open(t, d, setup), nil, 0)
}

func TestNil(t *testing.T) {
	var s *store.Store
	rev, e1 := s.Commit(entries("+a"))
	there, e2 := s.Get("a", 0)
	keys, e3 := s.Scan("", "", 0, 0)
	_, e4 := s.Keys(1)
	for i, e := range []api.Errno{e1, s.Flush(), s.SetFloor(0), s.SetFloor(1), s.Replace(0, nil, nil)} {
		if e != api.ErrStore {
			t.Error(i, e)
		}
	}
	if e2 != api.ErrRev || e3 != api.ErrRev || e4 != api.ErrMissing || rev != 0 || there || len(keys) != 0 {
		t.Error(e2, e3, e4)
	}
	if !s.Down() || s.Head() != 0 || s.Floor() != 0 || len(s.Version().Tables) != 0 {
		t.Error("a nil store has a history")
	}
}

// draw is a row of numbers.
type draw uint32

func (d *draw) next(n int) int {
	*d = *d*1664525 + 1013904223
	return int(*d>>8) % n
}

// batch is a commit of some keys.
func (d *draw) batch() string {
	var l []string
	for i := range 12 {
		if d.next(4) == 0 {
			l = append(l, []string{"+", "+", "-"}[d.next(3)]+[]string{"a", "b", "c", "k"}[d.next(4)]+[]string{"", strconv.Itoa(i)}[min(i, 1)])
		}
	}
	if len(l) == 0 {
		return "+a"
	}
	return strings.Join(l, " ")
}

// compact moves what a level has to the next one, without what nobody can ask for.
func compact(s *store.Store, level int) api.Errno {
	var rows [][]string
	var nums []int
	for _, x := range s.Version().Tables {
		if x.Level == level || x.Level == level+1 {
			keys, _ := s.Keys(x.Num)
			rows, nums = append(rows, keys), append(nums, x.Num)
		}
	}
	whole, _ := merge.All(rows...)
	kept, _ := drop.Keep(whole, s.Floor(), false)
	if len(kept) == 0 {
		return api.OK
	}
	return s.Replace(level+1, [][]string{kept}, nums)
}

// act does something to a store: what a commit would add to its history, what a floor would be, and the error.
func (d *draw) act(s *store.Store) (string, uint64, api.Errno) {
	switch d.next(8) {
	case 0:
		return "", s.Floor(), s.Flush()
	case 1:
		return "", s.Floor(), compact(s, d.next(3))
	case 2:
		f := s.Floor() + uint64(d.next(2+int(s.Head()-s.Floor())/3))
		f = min(f, s.Head())
		return "", f, s.SetFloor(f)
	}
	text := d.batch()
	_, e := s.Commit(entries(text))
	return text, s.Floor(), e
}

// P22.3: flushes, setups, compactions and openings change no answer.
func TestSame(t *testing.T) {
	for seed := range draw(25) {
		d := seed*7 + 1
		dsk := disk.New(1 << 20)
		s := open(t, dsk, setup)
		var history []string
		for range 40 {
			text, _, e := d.act(s)
			if e != api.OK {
				t.Fatal(e)
			}
			if text != "" {
				history = append(history, text)
			}
			if d.next(6) == 0 {
				s = open(t, dsk, api.Setup{Split: 1 + d.next(300), Bits: d.next(50) - 5, Draws: []byte{byte(d.next(256)), byte(d.next(256))}})
			}
			if d.next(5) == 0 {
				tells(t, s, history, s.Floor())
			}
		}
		tells(t, s, history, s.Floor())
	}
}

// P22.2: at whatever act the disk goes down, whatever a crash keeps.
func TestCrashes(t *testing.T) {
	for fuse := range 130 {
		for variant := range 6 {
			d := draw(variant*31 + fuse%3 + 5)
			keeps := draw(fuse*17 + variant)
			dsk := disk.New(1 << 20)
			dsk.Fuse(fuse)
			var history []string
			var floor uint64
			for crash := range 3 {
				s, e := store.Open(dsk, setup)
				more, asked := "", floor
				if e == api.OK {
					wanted(t, dsk)
					tells(t, s, history, floor)
				}
				for n := 0; e == api.OK && n < 60; n++ {
					more, asked, e = d.act(s)
					if e == api.OK {
						floor = asked
						if more != "" {
							history = append(history, more)
						}
						more = ""
					} else if e != api.ErrStore || !s.Down() {
						t.Fatalf("fuse %d, variant %d: %d", fuse, variant, e)
					} else {
						tells(t, s, history, floor)
					}
				}
				if e == api.OK {
					more = ""
				}
				var keep []byte
				for range 40 {
					keep = append(keep, byte([]int{0, 255, keeps.next(256), keeps.next(4)}[(variant+crash)%4]))
				}
				dsk.Crash(keep)
				s, e = store.Open(dsk, setup)
				if e != api.OK {
					t.Fatalf("fuse %d, variant %d: open: %d", fuse, variant, e)
				}
				wanted(t, dsk)
				if s.Head() == uint64(len(history))+1 && more != "" {
					history = append(history, more)
				}
				if s.Floor() == asked {
					floor = asked
				}
				tells(t, s, history, floor)
				dsk.Fuse(keeps.next(25))
			}
		}
	}
}
