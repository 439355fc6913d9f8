package server_test

import (
	"reflect"
	"slices"
	"strings"
	"testing"

	"sentry/api"
	"sentry/cond"
	"sentry/diff"
	"sentry/disk"
	"sentry/dump"
	"sentry/schema"
	"sentry/server"
	"sentry/service"
	"sentry/token"
	"sentry/tuple"
	"sentry/wire"
	"sentry/worlds"
)

const plenty = 1 << 32

func config() api.Config {
	when, _, _ := cond.Parse("day < 5")
	return api.Config{
		Schema: worlds.Texts()[0],
		Params: []api.Param{{Name: "day", Kind: api.Num}},
		Gates:  []api.Gate{{Ref: api.Ref{Type: "doc", Rel: "editor"}, When: when}},
		Setup:  api.Setup{Split: 200, Bits: 10},
		Most:   200,
	}
}

func open(t *testing.T, d *disk.Disk) *service.Service {
	t.Helper()
	s, e := service.Open(d, config())
	if e != api.OK {
		t.Fatal(e)
	}
	return s
}

func args(day int64) []api.Arg {
	return []api.Arg{{Name: "day", Val: api.Val{Kind: api.Num, N: day}}}
}

// writes reads "+doc:1#viewer@user:1 -doc:2#viewer@user:1".
func writes(text string) []api.Write {
	var l []api.Write
	for _, w := range strings.Fields(text) {
		l = append(l, api.Write{Del: w[0] == '-', Tuple: worlds.Tuples(w[1:])[0]})
	}
	return l
}

func write(client string, id uint64, text string) api.Request {
	return api.Request{Client: client, ID: id, Kind: api.DoWrite, Writes: writes(text)}
}

func asks(text string) []api.Ask {
	var l []api.Ask
	for _, w := range strings.Fields(text) {
		p, s, _ := strings.Cut(w, "@")
		l = append(l, api.Ask{Point: worlds.Point(p), Sub: worlds.Sub(s)})
	}
	return l
}

// both asks by Answer and by Handle, of two servers that were told the same.
func both(t *testing.T, x, y *server.Server, q api.Request, now uint64) api.Response {
	t.Helper()
	p := x.Answer(q, now)
	b, _ := wire.PutRequest(q)
	got, e := wire.GetResponse(y.Handle(b, now))
	want, _ := wire.PutResponse(p)
	back, _ := wire.PutResponse(got)
	if e != api.OK || !slices.Equal(back, want) {
		t.Fatalf("%v: by bytes %v, %d, else %v", q, got, e, p)
	}
	if p.ID != q.ID || p.Err != api.OK && !reflect.DeepEqual(p, api.Response{ID: p.ID, Err: p.Err}) || p.Err == api.OK && p.Token != token.Make(7, p.Rev) {
		t.Fatalf("%v: %v", q, p)
	}
	return p
}

// lay are two servers that were told the same.
func lay(t *testing.T, rate, most uint64) (*server.Server, *server.Server, *service.Service) {
	t.Helper()
	s := open(t, disk.New(1<<22))
	return server.New(s, 7, rate, most), server.New(open(t, disk.New(1<<22)), 7, rate, most), s
}

// P39.1: each kind is answered as the service answers.
func TestKinds(t *testing.T) {
	x, y, s := lay(t, 1, plenty)
	tell := func(q api.Request) api.Response { t.Helper(); return both(t, x, y, q, 0) }
	first := tell(write("c", 1, "+doc:1#viewer@group:1#member +group:1#member@user:1 +doc:1#owner@user:2 +doc:2#viewer@user:1"))
	second := tell(write("c", 2, "-doc:2#viewer@user:1 +folder:1#owner@user:1"))
	third := tell(write("c", 3, "+doc:1#parent@folder:1"))
	if first.Rev != 1 || second.Rev != 2 || third.Rev != 3 || first.Err+second.Err+third.Err != api.OK {
		t.Fatal(first, second, third)
	}
	a := asks("doc:1#viewer@user:1 doc:1#viewer@user:2 doc:2#viewer@user:1")
	f := api.Filter{Type: "doc"}
	for _, c := range []struct {
		how   int
		token string
		rev   uint64
	}{{api.Latest, "", 3}, {api.AtLeast, first.Token, 3}, {api.Exact, first.Token, 1}, {api.Exact, second.Token, 2}} {
		q := api.Request{Client: "c", ID: 9, How: c.how, Token: c.token, Filter: f, Asks: a, Args: args(1), N: 1, Typ: "user"}
		of := func(kind int) api.Response {
			t.Helper()
			q.Kind = kind
			p := tell(q)
			if p.Err != api.OK || p.Rev != c.rev {
				t.Fatal(kind, p)
			}
			p.ID, p.Rev, p.Token = 0, 0, ""
			return p
		}
		same := func(kind int, want api.Response) {
			t.Helper()
			if got := of(kind); !reflect.DeepEqual(got, want) {
				t.Errorf("kind %d: %v, want %v", kind, got, want)
			}
		}
		tuples, _ := s.Read(f, c.rev)
		same(api.DoRead, api.Response{Tuples: tuples})
		flags, _ := s.Has(a, c.rev, args(1))
		same(api.DoHas, api.Response{Flags: flags})
		tree, _ := s.Expand(a[0].Point, 1, c.rev, args(1))
		same(api.DoExpand, api.Response{Tree: tree})
		steps, has, _ := s.Why(a[0], c.rev, args(1))
		same(api.DoWhy, api.Response{Steps: steps, Flags: []bool{has}})
		objs, _ := s.Subjects(a[0].Point, "user", c.rev, args(1))
		same(api.DoSubjects, api.Response{Objs: objs})
		events, _, _ := s.Changes(1, c.rev, f, 0)
		same(api.DoChanges, api.Response{Events: events})
		same(api.DoHead, api.Response{})
		q.Typ = "doc"
		objs, _ = s.Objects(api.Ref{Type: "doc", Rel: "viewer"}, a[0].Sub, c.rev, args(1))
		same(api.DoObjects, api.Response{Objs: objs})
		q.Asks = asks("doc:9#viewer@user:9")
		same(api.DoWhy, api.Response{Flags: []bool{false}})
	}
	if p := tell(api.Request{Client: "c", ID: 10, Kind: api.DoFloor, N: 2, Token: "x", How: 9}); p.Err != api.OK || p.Rev != 2 || s.Floor() != 2 {
		t.Error(p)
	}
	if p := tell(api.Request{Client: "c", Kind: api.DoHead, How: api.Exact, Token: first.Token}); p.Err != api.ErrRev {
		t.Error(p)
	}
}

// P39.1: errors, in their order.
func TestErrors(t *testing.T) {
	x, y, s := lay(t, 0, 1000)
	both(t, x, y, write("c", 1, "+doc:1#viewer@user:1"), 0)
	good := token.Make(7, 1)
	other := token.Make(8, 1)
	for i, c := range []struct {
		q api.Request
		e api.Errno
	}{
		{api.Request{Client: "", Kind: 99}, api.ErrName}, {api.Request{Client: "C", Kind: api.DoHead}, api.ErrName}, {write("", 1, "+doc:1#viewer@user:1"), api.ErrName},
		{api.Request{Client: "c", Kind: 0}, api.ErrArg}, {api.Request{Client: "c", Kind: 11}, api.ErrArg}, {api.Request{Client: "c", Kind: -1, How: api.Exact}, api.ErrArg},
		{api.Request{Client: "c", Kind: api.DoHead}, api.ErrArg}, {api.Request{Client: "c", Kind: api.DoHead, How: api.AtLeast}, api.ErrForm}, {api.Request{Client: "c", Kind: api.DoHead, How: api.Exact, Token: other}, api.ErrArg},
		{api.Request{Client: "c", Kind: api.DoHead, How: api.AtLeast, Token: token.Make(7, 2)}, api.ErrRev}, {api.Request{Client: "c", Kind: api.DoHead, How: api.Exact, Token: good}, api.OK},
		{api.Request{Client: "c", Kind: api.DoExpand, How: api.AtLeast}, api.ErrForm},
		{api.Request{Client: "c", Kind: api.DoExpand, How: api.Latest}, api.ErrArg}, {api.Request{Client: "c", Kind: api.DoWhy, How: api.Latest}, api.ErrArg}, {api.Request{Client: "c", Kind: api.DoSubjects, How: api.Latest}, api.ErrArg}, {api.Request{Client: "c", Kind: api.DoObjects, How: api.Latest}, api.ErrArg},
		{api.Request{Client: "c", Kind: api.DoHas, How: api.Latest, Args: args(1)}, api.OK}, {api.Request{Client: "c", Kind: api.DoHas, How: api.Latest}, api.ErrMissing},
		{api.Request{Client: "c", Kind: api.DoExpand, How: api.Latest, Asks: asks("doc:1#viewer@user:1"), Args: args(1), N: 8}, api.OK}, {api.Request{Client: "c", Kind: api.DoExpand, How: api.Latest, Asks: asks("doc:1#viewer@user:1"), Args: args(1), N: 9}, api.ErrArg},
		{api.Request{Client: "c", Kind: api.DoExpand, How: api.Latest, Asks: asks("doc:1#viewer@user:1"), Args: args(1), N: 1 << 63}, api.ErrArg}, {api.Request{Client: "c", Kind: api.DoExpand, How: api.Latest, Asks: asks("doc:1#viewer@user:1"), Args: args(1), N: 256}, api.ErrArg},
		{api.Request{Client: "c", Kind: api.DoChanges, How: api.Latest, N: 2}, api.ErrRev}, {api.Request{Client: "c", Kind: api.DoFloor, N: 2}, api.ErrRev},
		{api.Request{Client: "c", Kind: api.DoRead, How: api.Latest}, api.OK}, {write("c", 2, ""), api.ErrArg}, {write("c", 3, "+doc:1#viewer@none:1"), api.ErrMissing},
	} {
		if p := both(t, x, y, c.q, 0); p.Err != c.e {
			t.Errorf("%d: %v, want %d", i, p, c.e)
		}
	}
	if s.Head() != 1 {
		t.Error("what was refused changed something")
	}
	q := write("c", 4, "+doc:9#viewer@user:9")
	q.Pres = []api.Pre{{Not: true, Tuple: worlds.Tuples("doc:1#viewer@user:1")[0]}}
	if p := both(t, x, y, q, 0); p.Err != api.ErrPre {
		t.Error(p)
	}
	q.ID, q.Pres[0].Not = 5, false
	if p := both(t, x, y, q, 0); p.Err != api.OK || p.Rev != 2 {
		t.Error(p)
	}
}

// P39.1: what requests cost.
func TestQuota(t *testing.T) {
	x, y, s := lay(t, 2, 10)
	head := api.Request{Client: "a", ID: 1, Kind: api.DoHead, How: api.Latest}
	tell := func(q api.Request, now uint64, want api.Errno) {
		t.Helper()
		if p := both(t, x, y, q, now); p.Err != want {
			t.Fatalf("%v at %d: %v", q, now, p)
		}
	}
	tell(write("a", 1, "+doc:1#viewer@user:1 +doc:2#viewer@user:1 +doc:3#viewer@user:1"), 0, api.OK) // 4
	tell(write("a", 1, "+doc:1#viewer@user:1 +doc:2#viewer@user:1 +doc:3#viewer@user:1"), 0, api.OK) // again: nothing
	q := api.Request{Client: "a", Kind: api.DoHas, How: api.Latest, Asks: asks("doc:1#viewer@user:1 doc:1#viewer@user:2"), Args: args(1)}
	tell(q, 0, api.OK) // 3
	tell(q, 0, api.OK) // 3
	tell(head, 0, api.ErrLong)
	tell(write("a", 2, "+doc:9#viewer@user:1"), 0, api.ErrLong)
	tell(write("a", 1, ""), 0, api.OK) // remembered, though nothing is left
	tell(api.Request{Client: "A", Kind: api.DoHead, How: api.Latest}, 0, api.ErrName)
	tell(api.Request{Client: "a", Kind: 77}, 0, api.ErrLong)
	tell(api.Request{Client: "b", Kind: 77}, 0, api.ErrArg)
	if s.Head() != 1 {
		t.Fatal("a write that wasn't paid for")
	}
	tell(write("a", 2, "+doc:9#viewer@user:1"), 1, api.OK) // 2
	tell(head, 1, api.ErrLong)
	tell(head, 2, api.OK)
	tell(head, 2, api.OK)
	tell(head, 2, api.ErrLong)
	mixed := write("a", 3, "+doc:1#viewer@user:1 +doc:2#viewer@user:1")
	mixed.Asks = q.Asks
	tell(mixed, 4, api.ErrLong) // 5, but it has 4
	tell(mixed, 5, api.OK)
}

// P39.2: a write that is sent again is done once, while it is remembered.
func TestOnce(t *testing.T) {
	x, y, s := lay(t, 1, plenty)
	tell := func(q api.Request) api.Response { t.Helper(); return both(t, x, y, q, 0) }
	first := tell(write("a", 1, "+doc:1#viewer@user:1"))
	refused := tell(write("a", 2, "+doc:1#none@user:1"))
	if refused.Err != api.ErrMissing {
		t.Fatal(refused)
	}
	for range 3 {
		if p := tell(write("a", 1, "-doc:1#viewer@user:1")); !reflect.DeepEqual(p, first) {
			t.Fatal(p)
		}
		if p := tell(write("a", 2, "+doc:2#viewer@user:1")); !reflect.DeepEqual(p, refused) {
			t.Fatal(p)
		}
	}
	if p := tell(write("b", 1, "+doc:3#viewer@user:1")); p.Rev != 2 {
		t.Fatal("another client's write of that ID", p)
	}
	if p := tell(api.Request{Client: "a", ID: 1, Kind: api.DoHead, How: api.Latest}); p.Rev != 2 {
		t.Fatal("another request of that ID", p)
	}
	for id := uint64(3); id <= 64; id++ {
		if p := tell(write("a", id, "+doc:4#viewer@user:1")); p.Rev != id {
			t.Fatal(id, p)
		}
	}
	tell(write("a", 1, ""))
	if s.Head() != 64 || !reflect.DeepEqual(tell(write("a", 1, "")), first) {
		t.Fatal("the first one of 64 is forgotten")
	}
	last := tell(write("a", 65, "+doc:4#viewer@user:1"))
	if p := tell(write("a", 2, "")); !reflect.DeepEqual(p, refused) {
		t.Fatal("the second one is forgotten", p)
	}
	if p := tell(write("a", 1, "+doc:5#viewer@user:1")); p.Rev != 66 {
		t.Fatal("the first one of 65 is still remembered", p)
	}
	if p := tell(write("a", 65, "")); !reflect.DeepEqual(p, last) {
		t.Fatal(p)
	}
	if p := tell(write("a", 2, "+doc:6#viewer@user:1")); p.Rev != 67 {
		t.Fatal(p)
	}
	if p := tell(write("b", 1, "")); p.Rev != 2 || p.Err != api.OK {
		t.Fatal("what others write counts for nothing", p)
	}
}

// P7: any bytes are answered.
func TestBytes(t *testing.T) {
	x := server.New(open(t, disk.New(1<<22)), 7, 1, plenty)
	d := worlds.Draw(3)
	good, _ := wire.PutRequest(write("c", 5, "+doc:1#viewer@user:1"))
	for range 3000 {
		b := slices.Clone(good)
		for range 1 + d.Next(3) {
			b[d.Next(len(b))] = byte(d.Next(256))
		}
		b = b[:len(b)-d.Next(2)*d.Next(len(b))]
		q, none := wire.GetRequest(b)
		p, e := wire.GetResponse(x.Handle(b, 0))
		if e != api.OK || p.ID != q.ID || (none == api.ErrForm) != (p.Err == api.ErrForm) {
			t.Fatalf("%q: %v %d", b, p, e)
		}
	}
	for _, b := range [][]byte{nil, []byte("q1"), []byte("x")} {
		if p, e := wire.GetResponse(x.Handle(b, 0)); e != api.OK || !reflect.DeepEqual(p, api.Response{Err: api.ErrForm}) {
			t.Error(p, e)
		}
	}
}

// P39.1: a response that has no bytes.
func TestDeep(t *testing.T) {
	// A rule of 14 levels, that leads to itself.
	rule := "a"
	for range 6 {
		rule = "(" + rule + " & this | this) & this"
	}
	s, e := service.Open(disk.New(1<<22), api.Config{Schema: "type t\na = " + rule, Most: 1000})
	if e != api.OK {
		t.Fatal(e)
	}
	x := server.New(s, 7, 1, plenty)
	for depth, want := range map[uint64]api.Errno{4: api.OK, 5: api.ErrLong} {
		q := api.Request{Client: "c", ID: 3, Kind: api.DoExpand, How: api.Latest, N: depth, Asks: asks("t:1#a@t:1")}
		p := x.Answer(q, 0)
		b, _ := wire.PutRequest(q)
		got, e := wire.GetResponse(x.Handle(b, 0))
		if e != api.OK || p.Err != api.OK || got.Err != want || want == api.OK && !reflect.DeepEqual(got, p) || want != api.OK && !reflect.DeepEqual(got, api.Response{ID: 3, Err: want}) {
			t.Errorf("depth %d: %d %d", depth, p.Err, got.Err)
		}
	}
}

// P7: tokens of writes that were told OK are good behind any crash.
func TestTokens(t *testing.T) {
	for fuse := range 60 {
		d := disk.New(1 << 22)
		d.Fuse(fuse)
		s, e := service.Open(d, config())
		var told []api.Response
		if e == api.OK {
			x := server.New(s, 7, 1, plenty)
			for id := range uint64(40) {
				p := x.Answer(write("c", id, []string{"+", "-"}[id%2]+"doc:1#viewer@user:1"), 0)
				if p.Err != api.OK {
					break
				}
				told = append(told, p)
				if id%3 == 2 {
					s.Tidy(1+int(id)%3, 0, 0)
				}
			}
		}
		d.Crash([]byte{byte(fuse * 7), byte(fuse), byte(fuse * 3), byte(fuse * 5)})
		x := server.New(open(t, d), 7, 1, plenty)
		for i, p := range told {
			got := x.Answer(api.Request{Client: "c", Kind: api.DoRead, How: api.Exact, Token: p.Token}, 0)
			if got.Err != api.OK || got.Rev != p.Rev || len(got.Tuples) != (i+1)%2 {
				t.Fatal(fuse, i, got)
			}
			if got := x.Answer(api.Request{Client: "c", Kind: api.DoHead, How: api.AtLeast, Token: p.Token}, 0); got.Err != api.OK || got.Rev < p.Rev {
				t.Fatal(fuse, i, got)
			}
		}
	}
}

// P6: a dump goes over to a schema under which it is safe.
func TestMove(t *testing.T) {
	from, _, _ := schema.Parse(config().Schema)
	d := worlds.Draw(9)
	s := open(t, disk.New(1<<22))
	for range 10 {
		var l []api.Write
		tuples := d.Tuples(20)
		slices.SortFunc(tuples, tuple.Cmp)
		for _, x := range slices.Compact(tuples) {
			if len(diff.Breaks(from, []api.Tuple{x})) == 0 {
				l = append(l, api.Write{Tuple: x})
			}
		}
		if _, e := s.Write(l, nil); e != api.OK {
			t.Fatal(e)
		}
	}
	text, e := dump.Save(s, s.Head())
	if e != api.OK {
		t.Fatal(e)
	}
	l, _, _ := dump.Read(text)
	safe := 0
	for _, lines := range worlds.Texts() {
		to, _, _ := schema.Parse(lines)
		c := config()
		c.Schema = lines
		c.Gates = nil
		other, e := service.Open(disk.New(1<<22), c)
		if e != api.OK {
			t.Fatal(e)
		}
		n, e := dump.Load(other, text, 7)
		if !diff.Safe(from, to, l) {
			if e == api.OK {
				t.Fatal("not safe, but loaded")
			}
			continue
		}
		safe++
		if again, _ := dump.Save(other, other.Head()); e != api.OK || n != len(l) || again != text {
			t.Fatal(n, e)
		}
	}
	if safe == 0 {
		t.Fatal("no schema is safe")
	}
}

func TestNil(t *testing.T) {
	var x *server.Server
	q := write("c", 5, "+doc:1#viewer@user:1")
	if p := x.Answer(q, 0); !reflect.DeepEqual(p, api.Response{ID: 5, Err: api.ErrDown}) {
		t.Error(p)
	}
	b, _ := wire.PutRequest(q)
	for _, b := range [][]byte{b, nil} {
		if p, e := wire.GetResponse(x.Handle(b, 0)); e != api.OK || p.Err != api.ErrDown {
			t.Error(p, e)
		}
	}
	none := server.New(nil, 7, 1, 100)
	if p := none.Answer(q, 0); p.Err != api.ErrStore {
		t.Error(p)
	}
	if p := none.Answer(api.Request{Client: "c", Kind: api.DoRead, How: api.Latest}, 0); p.Err != api.ErrRev {
		t.Error(p)
	}
}
