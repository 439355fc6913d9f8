package wire_test

import (
	"bytes"
	"math"
	"reflect"
	"slices"
	"strings"
	"testing"

	"sentry/api"
	"sentry/wire"
	"sentry/worlds"
)

// draw makes requests and responses out of a row of numbers.
type draw struct{ worlds.Draw }

func (d *draw) text() string {
	return []string{"", "a", "doc", "\x00\xff", strings.Repeat("long", 40)}[d.Next(5)]
}

func (d *draw) number() uint64 {
	return []uint64{0, 1, 127, 128, 1 << 40, math.MaxUint64}[d.Next(6)]
}

func (d *draw) whole() int {
	return []int{0, 1, -1, 63, 64, -64, -65, math.MaxInt, math.MinInt}[d.Next(9)]
}

func (d *draw) truth() bool      { return d.Next(2) == 0 }
func (d *draw) obj() api.Obj     { return api.Obj{Type: d.text(), ID: d.text()} }
func (d *draw) sub() api.Sub     { return api.Sub{Obj: d.obj(), Rel: d.text()} }
func (d *draw) point() api.Point { return api.Point{Obj: d.obj(), Rel: d.text()} }
func (d *draw) tuple() api.Tuple { return api.Tuple{Obj: d.obj(), Rel: d.text(), Sub: d.sub()} }
func (d *draw) write() api.Write { return api.Write{Del: d.truth(), Tuple: d.tuple()} }
func (d *draw) pre() api.Pre     { return api.Pre{Not: d.truth(), Tuple: d.tuple()} }
func (d *draw) ask() api.Ask     { return api.Ask{Point: d.point(), Sub: d.sub()} }
func (d *draw) event() api.Event { return api.Event{Rev: d.number(), Write: d.write()} }

func (d *draw) arg() api.Arg {
	return api.Arg{Name: d.text(), Val: api.Val{Kind: d.whole(), N: int64(d.whole()), S: d.text()}}
}

func (d *draw) rule(depth int) api.Rule {
	r := api.Rule{Kind: d.whole(), A: d.text(), B: d.text()}
	for depth > 0 && len(r.Parts) < d.Next(3) {
		r.Parts = append(r.Parts, d.rule(depth-1))
	}
	return r
}

func (d *draw) step() api.Step {
	return api.Step{Point: d.point(), Rule: d.rule(3), Sub: d.sub(), By: list(d, d.whole)}
}

func (d *draw) node(depth int) api.Node {
	n := api.Node{Kind: d.whole(), Obj: d.obj(), Rel: d.text(), Subs: list(d, d.sub)}
	for depth > 0 && len(n.Parts) < d.Next(3) {
		n.Parts = append(n.Parts, d.node(depth-1))
	}
	return n
}

func list[T any](d *draw, one func() T) []T {
	var l []T
	for range d.Next(4) {
		l = append(l, one())
	}
	return l
}

func (d *draw) request() api.Request {
	return api.Request{Client: d.text(), ID: d.number(), Kind: d.whole(), How: d.whole(), Token: d.text(), N: d.number(), Typ: d.text(), Filter: api.Filter{Type: d.text(), ID: d.text(), Rel: d.text()},
		Writes: list(d, d.write), Pres: list(d, d.pre), Asks: list(d, d.ask), Args: list(d, d.arg)}
}

func (d *draw) response() api.Response {
	return api.Response{ID: d.number(), Err: api.Errno(d.whole()), Rev: d.number(), Token: d.text(), Flags: list(d, d.truth), Tuples: list(d, d.tuple), Objs: list(d, d.obj), Events: list(d, d.event), Steps: list(d, d.step), Tree: d.node(4)}
}

// P37.1: bytes to the letter.
func TestBytes(t *testing.T) {
	o := api.Obj{Type: "d", ID: "1"}
	x := api.Tuple{Obj: o, Rel: "v", Sub: api.Sub{Obj: api.Obj{Type: "u", ID: "2"}, Rel: "m"}}
	tuple := "\x01d\x011\x01v\x01u\x012\x01m"
	for i, c := range []struct {
		q    api.Request
		want string
	}{
		{api.Request{}, "q1" + strings.Repeat("\x00", 14)},
		{api.Request{Client: "ab", ID: 300, Kind: 1, How: -1, Token: "t", N: 128, Typ: "y", Filter: api.Filter{Type: "A", ID: "B", Rel: "C"}, Writes: []api.Write{{Del: true, Tuple: x}}, Pres: []api.Pre{{Tuple: x}, {Not: true, Tuple: x}},
			Asks: []api.Ask{{Point: api.Point{Obj: o, Rel: "v"}, Sub: x.Sub}}, Args: []api.Arg{{Name: "n", Val: api.Val{Kind: 2, N: -2, S: "s"}}}},
			"q1\x02ab\xac\x02\x02\x01\x01t\x80\x01\x01y\x01A\x01B\x01C\x01\x01" + tuple + "\x02\x00" + tuple + "\x01" + tuple + "\x01" + tuple + "\x01\x01n\x04\x03\x01s"},
	} {
		if b, e := wire.PutRequest(c.q); e != api.OK || string(b) != c.want {
			t.Errorf("%d: %q %d", i, b, e)
		}
	}
	for i, c := range []struct {
		p    api.Response
		want string
	}{
		{api.Response{}, "p1" + strings.Repeat("\x00", 15)},
		{api.Response{ID: 1, Err: 9, Rev: 2, Token: "t", Flags: []bool{true, false}, Tuples: []api.Tuple{x}, Objs: []api.Obj{o}, Events: []api.Event{{Rev: 5, Write: api.Write{Del: true, Tuple: x}}},
			Steps: []api.Step{{Point: api.Point{Obj: o, Rel: "v"}, Rule: api.Rule{Kind: 4, A: "a", B: "b", Parts: []api.Rule{{Kind: 1}}}, Sub: x.Sub, By: []int{3, -3}}},
			Tree:  api.Node{Kind: 1, Obj: o, Rel: "v", Subs: []api.Sub{x.Sub}, Parts: []api.Node{{}}}},
			"p1\x01\x12\x02\x01t\x02\x01\x00\x01" + tuple + "\x01\x01d\x011\x01\x05\x01" + tuple +
				"\x01\x01d\x011\x01v\x08\x01a\x01b\x01\x02\x00\x00\x00\x01u\x012\x01m\x02\x06\x05" +
				"\x02\x01d\x011\x01v\x01\x01u\x012\x01m\x01\x00\x00\x00\x00\x00\x00"},
	} {
		if b, e := wire.PutResponse(c.p); e != api.OK || string(b) != c.want {
			t.Errorf("%d: %q %d", i, b, e)
		}
	}
}

// P37.2: there and back; and what is read of changed bytes is written as it was.
func TestThereAndBack(t *testing.T) {
	d := &draw{1}
	for range 300 {
		q, p := d.request(), d.response()
		b, e := wire.PutRequest(q)
		if got, e2 := wire.GetRequest(b); e != api.OK || e2 != api.OK || !reflect.DeepEqual(got, q) {
			t.Fatalf("%v: %v %d %d", q, got, e, e2)
		}
		c, e := wire.PutResponse(p)
		if got, e2 := wire.GetResponse(c); e != api.OK || e2 != api.OK || !reflect.DeepEqual(got, p) {
			t.Fatalf("%v: %v %d %d", p, got, e, e2)
		}
		for _, x := range [][]byte{b, c} {
			again(t, x[:d.Next(len(x))])
			again(t, append(slices.Clone(x), 0))
			for range 20 {
				y := slices.Clone(x)
				y[d.Next(len(y))] = byte(d.Next(256))
				again(t, y)
			}
		}
	}
}

// again checks that bytes are none, or are written as they were read.
func again(t *testing.T, b []byte) {
	t.Helper()
	if q, e := wire.GetRequest(b); e == api.OK {
		if back, e := wire.PutRequest(q); e != api.OK || !bytes.Equal(back, b) {
			t.Fatalf("%q, then %q", b, back)
		}
	} else if e != api.ErrForm || !reflect.DeepEqual(q, api.Request{}) {
		t.Fatal(e)
	}
	if p, e := wire.GetResponse(b); e == api.OK {
		if back, e := wire.PutResponse(p); e != api.OK || !bytes.Equal(back, b) {
			t.Fatalf("%q, then %q", b, back)
		}
	} else if e != api.ErrForm || !reflect.DeepEqual(p, api.Response{}) {
		t.Fatal(e)
	}
}

// P37.1: bytes that nothing has.
func TestNothing(t *testing.T) {
	q := "q1" + strings.Repeat("\x00", 14)
	p := "p1" + strings.Repeat("\x00", 15)
	huge := "\xff\xff\xff\xff\xff\xff\xff\xff\xff\x01"
	for _, s := range []string{"", "q", "q1", "p1", "q2" + q[2:], "Q1" + q[2:], p, q[:15], q + "\x00", "q1\x80\x00" + q[3:], "q1\x00\x80\x00" + q[4:], "q1\x05a" + q[3:], "q1" + huge + q[3:], q[:12] + "\x01", q[:12] + "\x01\x02" + strings.Repeat("\x00", 9), q[:12] + huge + q[13:], q[:15] + huge,
		"q1\x00" + strings.Repeat("\xff", 10) + q[4:], "q1\x00" + strings.Repeat("\xff", 9) + "\x02" + q[4:]} {
		if got, e := wire.GetRequest([]byte(s)); e != api.ErrForm || !reflect.DeepEqual(got, api.Request{}) {
			t.Errorf("%q: %d", s, e)
		}
	}
	for _, s := range []string{"", "p", "p1", q, p[:16], p + "\x00", "p1\x80\x00" + p[3:], p[:6] + "\x01\x02" + p[7:], p[:6] + huge + p[7:], p[:16] + huge, p[:16] + "\x01"} {
		if got, e := wire.GetResponse([]byte(s)); e != api.ErrForm || !reflect.DeepEqual(got, api.Response{}) {
			t.Errorf("%q: %d", s, e)
		}
	}
	if got, e := wire.GetRequest([]byte("q1\x00" + huge + q[4:])); e != api.OK || got.ID != math.MaxUint64 {
		t.Error(got, e)
	}
}

// P37.1: rules and nodes within one another.
func TestDeep(t *testing.T) {
	rules := func(n int) api.Rule {
		r := api.Rule{Kind: 1}
		for range n - 1 {
			r = api.Rule{Kind: 4, Parts: []api.Rule{{Kind: 1}, r}}
		}
		return r
	}
	nodes := func(n int) api.Node {
		r := api.Node{Kind: 1}
		for range n - 1 {
			r = api.Node{Kind: 4, Parts: []api.Node{{Kind: 1}, r}}
		}
		return r
	}
	with := func(n, m int) api.Response {
		return api.Response{Steps: []api.Step{{Rule: rules(64)}, {Rule: rules(n)}}, Tree: nodes(m)}
	}
	for _, c := range []struct {
		n, m int
		e    api.Errno
	}{{64, 64, api.OK}, {65, 1, api.ErrLong}, {1, 65, api.ErrLong}, {100000, 1, api.ErrLong}, {1, 100000, api.ErrLong}} {
		p := with(c.n, c.m)
		b, e := wire.PutResponse(p)
		if e != c.e || e != api.OK && len(b) != 0 {
			t.Errorf("%v: %d", c, e)
		}
		if got, e2 := wire.GetResponse(b); e == api.OK && (e2 != api.OK || !reflect.DeepEqual(got, p)) {
			t.Errorf("%v: %d", c, e2)
		}
	}
	// The same, laid by hand: one more is too deep.
	tree := func(n int) string {
		return "p1" + strings.Repeat("\x00", 9) + strings.Repeat("\x00\x00\x00\x00\x00\x01", n-1) + strings.Repeat("\x00", 6)
	}
	for n, want := range map[int]api.Errno{1: api.OK, 64: api.OK, 65: api.ErrForm, 5000: api.ErrForm} {
		if _, e := wire.GetResponse([]byte(tree(n))); e != want {
			t.Error(n, e)
		}
	}
	step := func(n int) string {
		return "p1" + strings.Repeat("\x00", 8) + "\x01\x00\x00\x00" + strings.Repeat("\x00\x00\x00\x01", n-1) + strings.Repeat("\x00", 4) + "\x00\x00\x00\x00" + strings.Repeat("\x00", 6)
	}
	for n, want := range map[int]api.Errno{1: api.OK, 64: api.OK, 65: api.ErrForm} {
		if _, e := wire.GetResponse([]byte(step(n))); e != want {
			t.Error(n, e)
		}
	}
}
