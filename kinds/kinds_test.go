package kinds_test

import (
	"slices"
	"strings"
	"testing"

	"sentry/api"
	"sentry/cond"
	"sentry/kinds"
	"sentry/schema"
)

func parse(t *testing.T, s string) api.Cond {
	t.Helper()
	c, place, e := cond.Parse(s)
	if e != api.OK {
		t.Fatalf("%s: at %d, %d", s, place, e)
	}
	return c
}

var params = []api.Param{{Name: "n", Kind: api.Num}, {Name: "f", Kind: api.Flag}, {Name: "t", Kind: api.Text}, {Name: "m", Kind: api.Num}}

// P9.1: parameters.
func TestCheck(t *testing.T) {
	p := func(name string, kind int) api.Param { return api.Param{Name: name, Kind: kind} }
	cases := []struct {
		l []api.Param
		e api.Errno
	}{
		{nil, api.OK},
		{params, api.OK},
		{[]api.Param{p("_1", 1), p(strings.Repeat("n", 32), 3)}, api.OK},
		{[]api.Param{p("", 1)}, api.ErrName},
		{[]api.Param{p("a-b", 1)}, api.ErrName},
		{[]api.Param{p("1a", 1)}, api.ErrName},
		{[]api.Param{p("in", 1)}, api.ErrName},
		{[]api.Param{p("true", 1)}, api.ErrName},
		{[]api.Param{p("A", 1)}, api.ErrName},
		{[]api.Param{p(strings.Repeat("n", 33), 1)}, api.ErrName},
		{[]api.Param{p("a", 1), p("b", 1), p("a", 2)}, api.ErrExists},
		{[]api.Param{p("a", 0)}, api.ErrForm},
		{[]api.Param{p("a", 4)}, api.ErrForm},
		{[]api.Param{p("a", -1)}, api.ErrForm},
		{[]api.Param{p("a", 9), p("a", 1), p("or", 1)}, api.ErrName},
		{[]api.Param{p("a", 9), p("a", 9)}, api.ErrExists},
	}
	for _, c := range cases {
		if e := kinds.Check(c.l); e != c.e {
			t.Errorf("%v: %d", c.l, e)
		}
		if c.e != api.OK {
			if k, e := kinds.Kind(c.l, api.Cond{}); k != 0 || e != c.e {
				t.Errorf("%v: %d %d", c.l, k, e)
			}
		}
	}
}

// P9.1, P9.2: kinds.
func TestKind(t *testing.T) {
	more := append(slices.Clone(params), api.Param{Name: "other", Kind: api.Text}, api.Param{Name: "g", Kind: api.Num})
	for text, want := range map[string]int{
		"true": api.Flag, "false": api.Flag, "1": api.Num, "'x'": api.Text, "n": api.Num, "f": api.Flag, "t": api.Text,
		"not f": api.Flag, "not n": 0, "not t": 0, "f and true and n = 1": api.Flag, "f and n": 0, "n and f": 0, "f and f and t": 0, "f or f": api.Flag, "f or 1": 0, "'x' or f": 0, "n or m": 0,
		"n = 1": api.Flag, "t = 'x'": api.Flag, "f = true": api.Flag, "n = t": 0, "f = 1": 0, "t != 'x'": api.Flag, "t != 1": 0, "(n = 1) = f": api.Flag,
		"n < m": api.Flag, "t < 'x'": api.Flag, "f < f": 0, "n < t": 0, "n <= 3": api.Flag, "t <= t": api.Flag, "f <= true": 0, "t >= 1": 0,
		"n + 1": api.Num, "n - m": api.Num, "n * 2": api.Num, "t + t": 0, "n + f": 0, "f * 1": 0, "t - 1": 0, "n + 1 <= 3": api.Flag, "t + 1 <= 3": 0,
		"n in [1, m]": api.Flag, "t in ['x', t]": api.Flag, "f in [true]": api.Flag, "n in [1, t]": 0, "n in [t, 1]": 0, "n in [t, t]": 0, "f in [1]": 0,
		"not (n in [t])": 0, "f and (t = 1)": 0,
	} {
		for _, l := range [][]api.Param{params, more} {
			k, e := kinds.Kind(l, parse(t, text))
			if k != want || (e == api.OK) != (want != 0) || e != api.OK && e != api.ErrArg {
				t.Errorf("%s: %d %d", text, k, e)
			}
		}
	}
}

// P9.1: errors, in their order.
func TestErrors(t *testing.T) {
	bad := parse(t, "x + t")
	if k, e := kinds.Kind(params, bad); k != 0 || e != api.ErrMissing {
		t.Error(k, e)
	}
	bad.N = 1
	if k, e := kinds.Kind(params, bad); k != 0 || e != api.ErrForm {
		t.Error(k, e)
	}
	if k, e := kinds.Kind(nil, parse(t, "a")); k != 0 || e != api.ErrMissing {
		t.Error(k, e)
	}
	if k, e := kinds.Kind(nil, parse(t, "1")); k != api.Num || e != api.OK {
		t.Error(k, e)
	}
}

func TestNames(t *testing.T) {
	for text, want := range map[string]string{"1": "", "b": "b", "b + a = b or not (c in [a, d, 'e'])": "a b c d", "'a' = 'b'": ""} {
		if got := kinds.Names(parse(t, text)); !slices.Equal(got, strings.Fields(want)) {
			t.Errorf("%s: %v", text, got)
		}
	}
	odd := api.Cond{Kind: 99, S: "x", Parts: []api.Cond{{Kind: api.IsName, S: "Y"}, {Kind: api.IsText, S: "z"}}}
	if got := kinds.Names(odd); !slices.Equal(got, []string{"Y"}) {
		t.Error(got)
	}
}

func TestGate(t *testing.T) {
	s, _, _ := schema.Parse("type doc\nviewer = this\ntype user")
	gate := func(typ, rel, when string) api.Gate {
		return api.Gate{Ref: api.Ref{Type: typ, Rel: rel}, When: parse(t, when)}
	}
	for _, c := range []struct {
		g api.Gate
		e api.Errno
	}{
		{gate("doc", "viewer", "f or n = 1"), api.OK},
		{gate("doc", "owner", "f"), api.ErrName},
		{gate("user", "viewer", "f"), api.ErrName},
		{gate("doc", "", "f"), api.ErrName},
		{gate("doc", "viewer", "n"), api.ErrArg},
		{gate("doc", "viewer", "t"), api.ErrArg},
		{gate("doc", "viewer", "x"), api.ErrMissing},
		{gate("doc", "viewer", "n + t"), api.ErrArg},
		{api.Gate{Ref: api.Ref{Type: "doc", Rel: "viewer"}}, api.ErrForm},
		{api.Gate{}, api.ErrName},
	} {
		if e := kinds.Gate(s, params, c.g); e != c.e {
			t.Errorf("%v: %d, want %d", c.g, e, c.e)
		}
	}
	if e := kinds.Gate(s, []api.Param{{Name: "a"}}, gate("doc", "viewer", "true")); e != api.ErrForm {
		t.Error("parameters that may not be:", e)
	}
	s.Types[1].Name = "doc"
	if e := kinds.Gate(s, params, gate("doc", "owner", "n")); e != api.ErrExists {
		t.Error("the schema is named first:", e)
	}
}
