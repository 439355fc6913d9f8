package service_test

import (
	"reflect"
	"slices"
	"strings"
	"testing"

	"sentry/api"
	"sentry/codec"
	"sentry/cond"
	"sentry/disk"
	"sentry/expand"
	"sentry/facts"
	"sentry/files"
	"sentry/proof"
	"sentry/rules"
	"sentry/service"
	"sentry/store"
	"sentry/tuple"
	"sentry/watch"
	"sentry/worlds"
)

func when(text string) api.Cond {
	c, _, _ := cond.Parse(text)
	return c
}

func gate(typ, rel, text string) api.Gate {
	return api.Gate{Ref: api.Ref{Type: typ, Rel: rel}, When: when(text)}
}

// config is a configuration with two gates.
func config(text int) api.Config {
	return api.Config{
		Schema: worlds.Texts()[text],
		Params: []api.Param{{Name: "day", Kind: api.Num}, {Name: "on", Kind: api.Flag}},
		Gates:  []api.Gate{gate("doc", "viewer", "day < 5 or on"), gate("folder", "viewer", "day + 1 != 3"), gate("doc", "viewer", "on or day > 0")},
		Setup:  api.Setup{Split: 150, Bits: 10, Draws: []byte{1, 0, 3, 0, 7, 1}},
		Most:   1000,
	}
}

func args(day, on int64) []api.Arg {
	return []api.Arg{{Name: "on", Val: api.Val{Kind: api.Flag, N: on}}, {Name: "day", Val: api.Val{Kind: api.Num, N: day}}}
}

// shut are the relations that the gates of config shut.
func shut(day, on int64) []api.Ref {
	var l []api.Ref
	if day >= 5 && on == 0 || on == 0 && day <= 0 {
		l = append(l, api.Ref{Type: "doc", Rel: "viewer"})
	}
	if day == 2 {
		l = append(l, api.Ref{Type: "folder", Rel: "viewer"})
	}
	return l
}

func open(t *testing.T, d *disk.Disk, c api.Config) *service.Service {
	t.Helper()
	s, e := service.Open(d, c)
	if e != api.OK {
		t.Fatal(e)
	}
	v, num, e := files.Load(d)
	if extra := files.Extra(d, v, num); e != api.OK || len(extra) != 0 {
		t.Fatal("files that don't count", extra, e)
	}
	return s
}

// writes reads "+doc:1#viewer@user:1 -doc:2#viewer@user:1".
func writes(text string) []api.Write {
	var l []api.Write
	for _, w := range strings.Fields(text) {
		l = append(l, api.Write{Del: w[0] == '-', Tuple: worlds.Tuples(w[1:])[0]})
	}
	return l
}

// pres reads "?doc:1#viewer@user:1 !doc:2#viewer@user:1".
func pres(text string) []api.Pre {
	var l []api.Pre
	for _, w := range strings.Fields(text) {
		l = append(l, api.Pre{Not: w[0] == '!', Tuple: worlds.Tuples(w[1:])[0]})
	}
	return l
}

// P35.1: configurations.
func TestCheck(t *testing.T) {
	good := config(0)
	if e := service.Check(good); e != api.OK {
		t.Fatal(e)
	}
	for i, x := range []struct {
		change func(c *api.Config)
		e      api.Errno
	}{
		{func(c *api.Config) { c.Most = 1 }, api.OK},
		{func(c *api.Config) { c.Most = 65536 }, api.OK},
		{func(c *api.Config) { c.Gates = nil }, api.OK},
		{func(c *api.Config) { c.Gates, c.Params = nil, nil }, api.OK},
		{func(c *api.Config) { c.Schema, c.Gates = "", nil }, api.OK},
		{func(c *api.Config) { c.Schema = "type" }, api.ErrForm},
		{func(c *api.Config) { c.Schema = strings.Repeat(" ", 65537) }, api.ErrForm},
		{func(c *api.Config) { c.Schema = "type a\ntype a" }, api.ErrExists},
		{func(c *api.Config) { c.Schema = "type a\nr = s" }, api.ErrName},
		{func(c *api.Config) { c.Schema = strings.Repeat("type a\n", 17) }, api.ErrLong},
		{func(c *api.Config) { c.Gates[1].Ref.Rel = "none" }, api.ErrName},
		{func(c *api.Config) { c.Gates[1].When = when("day") }, api.ErrArg},
		{func(c *api.Config) { c.Gates[1].When = when("x = 1") }, api.ErrMissing},
		{func(c *api.Config) { c.Gates[1].When = api.Cond{} }, api.ErrForm},
		{func(c *api.Config) { c.Gates[1].When = when("x = 1"); c.Gates[0].Ref.Type = "none" }, api.ErrName},
		{func(c *api.Config) { c.Params[0].Kind = 0 }, api.ErrForm},
		{func(c *api.Config) { c.Params[0].Kind, c.Gates = 0, nil }, api.ErrForm},
		{func(c *api.Config) { c.Params[0].Name, c.Gates = "on", nil }, api.ErrExists},
		{func(c *api.Config) { c.Most = 0 }, api.ErrArg},
		{func(c *api.Config) { c.Most = 65537 }, api.ErrArg},
		{func(c *api.Config) { c.Most = -1 }, api.ErrArg},
		{func(c *api.Config) { c.Most, c.Params[0].Name = 0, "or" }, api.ErrName},
	} {
		c := config(0)
		x.change(&c)
		if e := service.Check(c); e != x.e {
			t.Errorf("%d: %d, want %d", i, e, x.e)
		}
		d := disk.New(1 << 20)
		if s, e := service.Open(d, c); e != x.e || (s == nil) != (e != api.OK) || e != api.OK && len(d.List()) != 0 {
			t.Errorf("%d: open: %d, want %d", i, e, x.e)
		}
	}
	if s, e := service.Open(disk.New(1), good); e != api.ErrSpace || s != nil {
		t.Error(e)
	}
	if s, e := service.Open(nil, good); e != api.ErrDown || s != nil {
		t.Error(e)
	}
}

// P35.1, P35.2: what may be written, errors in their order; what is refused changes nothing.
func TestWrite(t *testing.T) {
	d := disk.New(1 << 22)
	s := open(t, d, config(0))
	if rev, e := s.Write(writes("+doc:1#viewer@user:1 +doc:1#parent@folder:1"), pres("!doc:1#viewer@user:1 !none:1#none@none:1")); rev != 1 || e != api.OK {
		t.Fatal(rev, e)
	}
	many := func(n int, text string) []api.Write {
		var l []api.Write
		for i := range n {
			x := writes(text)[0]
			x.Tuple.Sub.Obj.ID = strings.Repeat("x", 1+i%8) + strings.Repeat("y", i/8)
			l = append(l, x)
		}
		return l
	}
	manyPres := func(n int) []api.Pre {
		return slices.Repeat(pres("?doc:1#viewer@user:1"), n)
	}
	bad := api.Write{Tuple: api.Tuple{}}
	badDel := api.Write{Del: true, Tuple: api.Tuple{}}
	for i, c := range []struct {
		l   []api.Write
		pre []api.Pre
		e   api.Errno
	}{
		{nil, nil, api.ErrArg},
		{nil, manyPres(1), api.ErrArg},
		{many(api.MaxBatch+1, "+doc:2#viewer@user:1"), nil, api.ErrArg},
		{writes("+doc:2#viewer@user:1"), manyPres(api.MaxBatch + 1), api.ErrArg},
		{[]api.Write{bad}, manyPres(api.MaxBatch + 1), api.ErrArg},
		{append(writes("+doc:2#viewer@user:1"), bad), nil, api.ErrName},
		{append(writes("+doc:2#viewer@user:1"), badDel), nil, api.ErrName},
		{append(writes("+doc:2#none@user:1"), bad), nil, api.ErrMissing},
		{append([]api.Write{badDel}, writes("+doc:2#none@user:1")...), nil, api.ErrName},
		{writes("+doc:2#viewer@none:1"), nil, api.ErrMissing},
		{writes("+group:1#all@user:1"), nil, api.ErrForm},
		{writes("+doc:2#viewer@user:1 -doc:2#viewer@user:1"), nil, api.ErrExists},
		{writes("+doc:2#viewer@user:1 +doc:2#viewer@user:1 +none:1#none@none:1"), nil, api.ErrMissing},
		{writes("+doc:2#viewer@user:1 +doc:2#viewer@user:1"), []api.Pre{{}}, api.ErrExists},
		{writes("+doc:2#viewer@user:1"), append(pres("?doc:2#viewer@user:1"), api.Pre{}), api.ErrName},
		{writes("+doc:2#viewer@user:1"), pres("?doc:2#viewer@user:1"), api.ErrPre},
		{writes("+doc:2#viewer@user:1"), pres("!doc:1#viewer@user:1"), api.ErrPre},
		{writes("+doc:2#viewer@user:1"), pres("?doc:1#viewer@user:1 !doc:2#viewer@user:1 ?doc:1#parent@folder:2"), api.ErrPre},
	} {
		before := d.List()
		if rev, e := s.Write(c.l, c.pre); rev != 0 || e != c.e {
			t.Errorf("%d: %d %d, want %d", i, rev, e, c.e)
		}
		l, _ := s.Read(api.Filter{}, 1)
		if s.Head() != 1 || s.Down() || len(l) != 2 || !slices.Equal(before, d.List()) {
			t.Fatal("what was refused changed something")
		}
	}
	for i, c := range []struct {
		l   []api.Write
		pre []api.Pre
	}{
		{many(api.MaxBatch, "+doc:2#viewer@user:1"), manyPres(api.MaxBatch)},
		{writes("-none:1#none@none:1 -group:1#all@user:1 +doc:1#viewer@user:1"), nil},
		{writes("-doc:1#viewer@user:1"), pres("?doc:1#viewer@user:1 ?doc:1#parent@folder:1 !doc:9#viewer@user:1")},
	} {
		if rev, e := s.Write(c.l, c.pre); rev != uint64(i+2) || e != api.OK {
			t.Fatal(i, rev, e)
		}
	}
	if l, e := s.Read(api.Filter{ID: "1"}, 4); e != api.OK || !slices.Equal(l, worlds.Tuples("doc:1#parent@folder:1")) {
		t.Error(l, e)
	}
	d.Fuse(0)
	if rev, e := s.Write(writes("+doc:7#viewer@user:1"), nil); rev != 0 || e != api.ErrStore || !s.Down() || s.Head() != 4 {
		t.Fatal(rev, e)
	}
	if rev, e := s.Write(nil, nil); rev != 0 || e != api.ErrStore {
		t.Fatal(rev, e)
	}
	if l, e := s.Read(api.Filter{ID: "1"}, 4); e != api.OK || len(l) != 1 {
		t.Fatal("a service that is down tells", e)
	}
	if s.Tidy(1, 0, 0) != api.ErrStore || s.Tidy(2, 0, 0) != api.ErrStore || s.Tidy(3, 0, 0) != api.ErrStore || s.SetFloor(3) != api.ErrStore || s.Tidy(4, 0, 0) != api.ErrArg {
		t.Fatal("down")
	}
}

// model is what a service should have: a history of batches, and a floor.
type model struct {
	text    int
	history [][]api.Write
	floor   uint64
}

// at is what is there at a revision.
func (m *model) at(rev uint64) []api.Tuple {
	there := map[api.Tuple]bool{}
	for _, l := range m.history[:rev] {
		for _, w := range l {
			there[w.Tuple] = !w.Del
		}
	}
	var l []api.Tuple
	for x, is := range there {
		if is {
			l = append(l, x)
		}
	}
	slices.SortFunc(l, tuple.Cmp)
	return l
}

// batch is some writes that may be.
func (m *model) batch(d *worlds.Draw) []api.Write {
	s := worlds.Schema(worlds.Texts()[m.text])
	var l []api.Write
	for len(l) == 0 {
		tuples := d.Tuples(6)
		if head := m.at(uint64(len(m.history))); len(head) > 0 {
			tuples = append(tuples, head[d.Next(len(head))])
		}
		slices.SortFunc(tuples, tuple.Cmp)
		for _, x := range slices.Compact(tuples) {
			if rules.Writes(s, x) == api.OK {
				l = append(l, api.Write{Del: d.Next(3) == 0, Tuple: x})
			}
		}
	}
	return l
}

// reads holds what a service has at each revision against a model.
func (m *model) reads(t *testing.T, s *service.Service) {
	t.Helper()
	head := uint64(len(m.history))
	if s.Head() != head || s.Floor() != m.floor {
		t.Fatalf("head %d, floor %d, want %d, %d", s.Head(), s.Floor(), head, m.floor)
	}
	for rev := uint64(0); rev <= head+1; rev++ {
		l, e := s.Read(api.Filter{}, rev)
		if rev < m.floor || rev > head {
			if e != api.ErrRev {
				t.Fatal(rev, e)
			}
			continue
		}
		if e != api.OK || !slices.Equal(l, m.at(rev)) {
			t.Fatalf("at %d: %v %d, want %v", rev, l, e, m.at(rev))
		}
	}
}

// answers holds what a service answers at a revision against the plain answers.
func (m *model) answers(t *testing.T, s *service.Service, d *worlds.Draw, rev uint64) {
	t.Helper()
	day, on := int64(d.Next(8)), int64(d.Next(2))
	w := worlds.World{Schema: worlds.Schema(worlds.Texts()[m.text]), Tuples: m.at(rev), Shut: shut(day, on)}
	book := facts.NewBook(w.Tuples)
	points, subs := worlds.Points(), worlds.Subs()
	var asks []api.Ask
	for range 12 {
		asks = append(asks, api.Ask{Point: points[d.Next(len(points))], Sub: subs[d.Next(len(subs))]})
	}
	flags, e := s.Has(asks, rev, args(day, on))
	if e != api.OK || len(flags) != len(asks) {
		t.Fatal(e)
	}
	for i, a := range asks {
		if flags[i] != w.Has(a) {
			t.Fatalf("at %d: %v: %t", rev, a, flags[i])
		}
	}
	a := asks[0]
	steps, has, e := s.Why(a, rev, args(day, on))
	if right, _ := proof.Verify(w.Schema, book, w.Shut, a, steps); e != api.OK || has != flags[0] || right != has {
		t.Fatalf("at %d: why %v: %t %d", rev, a, has, e)
	}
	tree, e := s.Expand(a.Point, 3, rev, args(day, on))
	if want, _ := expand.Tree(w.Schema, book, w.Shut, a.Point, 3, 1000); e != api.OK || !reflect.DeepEqual(tree, want) {
		t.Fatalf("at %d: tree of %v: %v %d", rev, a.Point, tree, e)
	}
	m.lookups(t, s, w, a, rev, args(day, on))
}

// lookups holds members against the plain answers.
func (m *model) lookups(t *testing.T, s *service.Service, w worlds.World, a api.Ask, rev uint64, args []api.Arg) {
	t.Helper()
	objs, _ := facts.NewBook(w.Tuples).Objects("user")
	var want []api.Obj
	for _, o := range objs {
		if w.Has(api.Ask{Point: a.Point, Sub: api.Sub{Obj: o}}) {
			want = append(want, o)
		}
	}
	if got, e := s.Subjects(a.Point, "user", rev, args); e != api.OK || !slices.Equal(got, want) {
		t.Fatalf("at %d: subjects of %v: %v %d, want %v", rev, a.Point, got, e, want)
	}
	objs, _ = facts.NewBook(w.Tuples).Objects("doc")
	want = nil
	for _, o := range objs {
		if w.Has(api.Ask{Point: api.Point{Obj: o, Rel: "viewer"}, Sub: a.Sub}) {
			want = append(want, o)
		}
	}
	if got, e := s.Objects(api.Ref{Type: "doc", Rel: "viewer"}, a.Sub, rev, args); e != api.OK || !slices.Equal(got, want) {
		t.Fatalf("at %d: objects of %v: %v %d, want %v", rev, a.Sub, got, e, want)
	}
}

// step does something to a service; it answers a batch that was written, the floor that was asked for, and the error.
func (m *model) step(s *service.Service, d *worlds.Draw) ([]api.Write, uint64, api.Errno) {
	switch d.Next(8) {
	case 0:
		return nil, m.floor, s.Tidy(1, 0, 0)
	case 1, 2:
		return nil, m.floor, s.Tidy(2, d.Next(4), d.Next(5))
	case 3:
		if d.Next(3) == 0 {
			return nil, m.floor, s.Tidy(3, -1, -1)
		}
		f := min(m.floor+uint64(d.Next(3)), s.Head())
		return nil, f, s.SetFloor(f)
	}
	l := m.batch(d)
	_, e := s.Write(l, nil)
	return l, m.floor, e
}

// took takes up what a step did.
func (m *model) took(l []api.Write, floor uint64) {
	m.floor = floor
	if l != nil {
		m.history = append(m.history, l)
	}
}

// P1, P3, P4, P35.3: whatever is written, flushed, compacted, opened again, by whatever draws.
func TestModel(t *testing.T) {
	for seed := range worlds.Draw(15) {
		d := seed*53 + 9
		dsk := disk.New(1 << 22)
		m := &model{text: int(seed) % len(worlds.Texts())}
		c := config(m.text)
		s := open(t, dsk, c)
		for range 40 {
			l, floor, e := m.step(s, &d)
			if e != api.OK {
				t.Fatal(e)
			}
			m.took(l, floor)
			if d.Next(8) == 0 {
				c.Setup = api.Setup{Split: 1 + d.Next(500), Bits: 1 + d.Next(30), Draws: []byte{byte(d.Next(256)), byte(d.Next(256))}}
				s = open(t, dsk, c)
			}
			if d.Next(3) == 0 {
				m.answers(t, s, &d, m.floor+uint64(d.Next(1+len(m.history)-int(m.floor))))
			}
		}
		m.reads(t, s)
		m.changes(t, s)
	}
}

// changes checks that what is told as changed leads from one revision to the next.
func (m *model) changes(t *testing.T, s *service.Service) {
	t.Helper()
	for from := m.floor; from <= s.Head(); from++ {
		events, told, e := s.Changes(from, s.Head(), api.Filter{Type: "doc"}, 0)
		docs := func(rev uint64) []api.Tuple {
			return slices.DeleteFunc(m.at(rev), func(x api.Tuple) bool { return x.Obj.Type != "doc" })
		}
		got, e2 := watch.Apply(docs(from), events)
		if e != api.OK || e2 != api.OK || told != s.Head() || !slices.Equal(got, docs(s.Head())) {
			t.Fatal(from, told, e, e2)
		}
	}
}

// P2: at whatever act the disk goes down, whatever a crash keeps.
func TestCrashes(t *testing.T) {
	for fuse := range 90 {
		for variant := range 3 {
			d := worlds.Draw(variant*7 + 3)
			keeps := worlds.Draw(fuse*11 + variant)
			dsk := disk.New(1 << 22)
			m := &model{text: variant}
			dsk.Fuse(fuse)
			for range 2 {
				s, e := service.Open(dsk, config(m.text))
				var more []api.Write
				asked := m.floor
				for n := 0; e == api.OK && n < 30; n++ {
					more, asked, e = m.step(s, &d)
					if e == api.OK {
						m.took(more, asked)
						more = nil
					} else if e != api.ErrStore {
						t.Fatal(e)
					}
				}
				var keep []byte
				for range 30 {
					keep = append(keep, byte(keeps.Next(256)))
				}
				dsk.Crash(keep)
				s = open(t, dsk, config(m.text))
				if more != nil && s.Head() == uint64(len(m.history))+1 {
					m.history = append(m.history, more)
				}
				if s.Floor() == asked {
					m.floor = asked
				}
				m.reads(t, s)
				dsk.Fuse(keeps.Next(20))
			}
		}
	}
}

// P5: behind a floor, and a compaction of all.
func TestLeft(t *testing.T) {
	for seed := range worlds.Draw(10) {
		d := seed*3 + 1
		dsk := disk.New(1 << 22)
		m := &model{text: 0}
		s := open(t, dsk, config(0))
		for range 25 {
			l, floor, e := m.step(s, &d)
			if e != api.OK {
				t.Fatal(e)
			}
			m.took(l, floor)
		}
		m.floor = s.Floor() + (s.Head()-s.Floor())/2
		if s.SetFloor(m.floor) != api.OK || s.Tidy(3, 0, 0) != api.OK {
			t.Fatal("tidy")
		}
		m.reads(t, s)
		st, e := store.Open(dsk, api.Setup{Split: 100})
		if e != api.OK {
			t.Fatal(e)
		}
		old := map[string]int{}
		for _, x := range st.Version().Tables {
			keys, _ := st.Keys(x.Num)
			for _, k := range keys {
				y, _ := codec.Outer(k)
				if y.Rev <= m.floor {
					old[y.Key]++
				}
				if y.Rev <= m.floor && y.Del || old[y.Key] > 1 {
					t.Fatal(y)
				}
			}
		}
	}
}

// P35.1: errors of what is asked, in their order.
func TestAskErrors(t *testing.T) {
	c := config(0)
	c.Most = 30
	s := open(t, disk.New(1<<22), c)
	s.Write(writes("+doc:1#viewer@user:1 +doc:1#viewer@group:1#member"), nil)
	s.Write(writes("-doc:1#viewer@user:1"), nil)
	s.SetFloor(1)
	a := api.Ask{Point: worlds.Point("doc:1#viewer"), Sub: worlds.Sub("user:1")}
	long := api.Ask{Point: worlds.Point("doc:2#viewer"), Sub: worlds.Sub("user:1")}
	for i := range 40 {
		x := writes("+doc:2#viewer@group:1#member")
		x[0].Tuple.Sub.Obj.ID = strings.Repeat("g", i%20+1) + []string{"a", "b"}[i/20]
		if _, e := s.Write(x, nil); e != api.OK {
			t.Fatal(e)
		}
	}
	for i, x := range []struct {
		a    api.Ask
		rev  uint64
		args []api.Arg
		e    api.Errno
	}{
		{a, 0, args(1, 0), api.ErrRev}, {a, 99, args(1, 0), api.ErrRev}, {a, 0, nil, api.ErrRev}, {a, 99, nil, api.ErrRev},
		{a, 1, nil, api.ErrMissing}, {a, 1, append(args(1, 0), args(1, 0)...), api.ErrExists}, {a, 1, args(1, 2), api.ErrArg}, {a, 2, args(1e15, 0), api.ErrLong},
		{long, 42, args(1, 0), api.ErrLong}, {long, 42, args(9, 0), api.OK}, {long, 3, args(1, 0), api.OK}, {a, 1, args(1, 0), api.OK},
	} {
		flags, e1 := s.Has([]api.Ask{x.a, x.a}, x.rev, x.args)
		steps, has, e2 := s.Why(x.a, x.rev, x.args)
		objs, e3 := s.Subjects(x.a.Point, "user", x.rev, x.args)
		refs, e4 := s.Objects(api.Ref{Type: "doc", Rel: "viewer"}, x.a.Sub, x.rev, x.args)
		for j, e := range []api.Errno{e1, e2, e3, e4} {
			if e != x.e && !(j == 3 && x.rev == 42) { // at 42 one of the objects hangs on too much, whoever is asked for
				t.Errorf("%d, call %d: %d, want %d", i, j, e, x.e)
			}
		}
		if x.e != api.OK && (len(flags)+len(steps)+len(objs) != 0 || has) || e4 != api.OK && len(refs) != 0 {
			t.Errorf("%d: answers beside an error", i)
		}
		if x.e != api.ErrLong || x.a == a {
			if n, e := s.Expand(x.a.Point, 1, x.rev, x.args); e != x.e || e != api.OK && !reflect.DeepEqual(n, api.Node{}) {
				t.Errorf("%d: expand: %d", i, e)
			}
		}
	}
	for depth, want := range map[int]api.Errno{-1: api.ErrArg, 0: api.OK, api.MaxDepth: api.OK, api.MaxDepth + 1: api.ErrArg} {
		if _, e := s.Expand(a.Point, depth, 2, args(1, 0)); e != want {
			t.Error(depth, e)
		}
	}
	if flags, e := s.Has(nil, 1, args(1, 0)); e != api.OK || len(flags) != 0 {
		t.Error(flags, e)
	}
	if _, _, e := s.Changes(0, 2, api.Filter{}, 0); e != api.ErrRev {
		t.Error(e)
	}
	if events, told, e := s.Changes(1, 9, api.Filter{}, 2); e != api.OK || told != 3 || len(events) != 2 {
		t.Error(events, told, e)
	}
	if e := s.SetFloor(0); e != api.ErrRev {
		t.Error(e)
	}
	for _, how := range []int{-1, 0, 4} {
		if e := s.Tidy(how, 0, 0); e != api.ErrArg {
			t.Error(how, e)
		}
	}
	if s.Tidy(2, 9, 0) != api.ErrArg || s.Tidy(2, 0, -1) != api.ErrArg {
		t.Error("tidy")
	}
}

// P35.1: what Tidy does.
func TestTidy(t *testing.T) {
	dsk := disk.New(1 << 22)
	s := open(t, dsk, config(0))
	count := func() (l []int) {
		v, _, _ := files.Load(dsk)
		for _, x := range v.Tables {
			l = append(l, x.Level)
		}
		return l
	}
	s.Write(writes("+doc:1#viewer@user:1"), nil)
	if l := count(); len(l) != 0 {
		t.Fatal(l)
	}
	if e := s.Tidy(1, 9, -9); e != api.OK || !slices.Equal(count(), []int{0}) {
		t.Fatal(e, count())
	}
	if e := s.Tidy(2, 0, 5); e != api.OK || len(count()) != 1 || count()[0] != 1 {
		t.Fatal(e, count())
	}
	s.Write(writes("-doc:1#viewer@user:1"), nil)
	s.SetFloor(2)
	if e := s.Tidy(3, 9, -9); e != api.OK || len(count()) != 0 {
		t.Fatal(e, count())
	}
}

// P35.1: what is handed in isn't kept.
func TestApart(t *testing.T) {
	c := config(0)
	s := open(t, disk.New(1<<20), c)
	s.Write(writes("+doc:1#viewer@user:1"), nil)
	c.Gates[0].When.Parts[0].Kind, c.Gates[1].Ref.Rel, c.Params[0].Name = 0, "changed", "changed"
	a := []api.Ask{{Point: worlds.Point("doc:1#viewer"), Sub: worlds.Sub("user:1")}}
	for day, want := range map[int64]bool{1: true, 9: false} {
		if flags, e := s.Has(a, 1, args(day, 0)); e != api.OK || flags[0] != want {
			t.Error(day, flags, e)
		}
	}
}

func TestNil(t *testing.T) {
	var s *service.Service
	a := api.Ask{}
	_, e1 := s.Write(writes("+doc:1#viewer@user:1"), nil)
	_, e2 := s.Write(nil, nil)
	for i, e := range []api.Errno{e1, e2, s.SetFloor(0), s.Tidy(1, 0, 0), s.Tidy(9, 0, 0)} {
		if e != api.ErrStore {
			t.Error(i, e)
		}
	}
	_, e1 = s.Read(api.Filter{}, 0)
	_, e2 = s.Has(nil, 0, nil)
	_, e3 := s.Expand(a.Point, 1, 0, nil)
	_, _, e4 := s.Why(a, 0, nil)
	_, e5 := s.Subjects(a.Point, "", 0, nil)
	_, e6 := s.Objects(api.Ref{}, a.Sub, 0, nil)
	_, _, e7 := s.Changes(0, 0, api.Filter{}, 0)
	for i, e := range []api.Errno{e1, e2, e3, e4, e5, e6, e7} {
		if e != api.ErrRev {
			t.Error(i, e)
		}
	}
	if !s.Down() || s.Head() != 0 || s.Floor() != 0 {
		t.Error("a nil service")
	}
}
