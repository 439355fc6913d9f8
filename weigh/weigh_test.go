package weigh_test

import (
	"math"
	"slices"
	"strings"
	"testing"

	"sentry/api"
	"sentry/cond"
	"sentry/weigh"
)

func parse(t *testing.T, s string) api.Cond {
	t.Helper()
	c, place, e := cond.Parse(s)
	if e != api.OK {
		t.Fatalf("%s: at %d, %d", s, place, e)
	}
	return c
}

func num(name string, n int64) api.Arg {
	return api.Arg{Name: name, Val: api.Val{Kind: api.Num, N: n}}
}

func flag(name string, n int64) api.Arg {
	return api.Arg{Name: name, Val: api.Val{Kind: api.Flag, N: n}}
}

func text(name, s string) api.Arg {
	return api.Arg{Name: name, Val: api.Val{Kind: api.Text, S: s}}
}

var params = []api.Param{{Name: "a", Kind: api.Num}, {Name: "b", Kind: api.Num}, {Name: "f", Kind: api.Flag}, {Name: "t", Kind: api.Text}}
var good = []api.Arg{num("a", 1), num("b", 5), flag("f", 1), text("t", "mm")}

// put is the good row with one argument in another's place.
func put(x api.Arg) []api.Arg {
	l := slices.Clone(good)
	for i := range l {
		if l[i].Name == x.Name {
			l[i] = x
		}
	}
	return l
}

// P10.1, P10.2: which arguments go with parameters.
func TestCheck(t *testing.T) {
	val := func(name string, v api.Val) api.Arg { return api.Arg{Name: name, Val: v} }
	cases := []struct {
		args []api.Arg
		e    api.Errno
	}{
		{good, api.OK},
		{good[:3], api.ErrMissing},
		{nil, api.ErrMissing},
		{append(slices.Clone(good), num("c", 1)), api.ErrMissing},
		{append(slices.Clone(good), num("a", 1)), api.ErrExists},
		{append(slices.Clone(good), num("a", 1), num("c", 1)), api.ErrMissing},
		{append(slices.Clone(good[1:]), num("b", 1)), api.ErrMissing},
		{append(put(num("a", math.MaxInt64)), num("a", 1)), api.ErrExists},
		{put(num("a", 1e15)), api.OK},
		{put(num("a", -1e15)), api.OK},
		{put(num("a", 1e15+1)), api.ErrArg},
		{put(num("a", -1e15-1)), api.ErrArg},
		{put(num("a", math.MinInt64)), api.ErrArg},
		{put(val("a", api.Val{Kind: api.Num, S: "x"})), api.ErrArg},
		{put(flag("a", 1)), api.ErrArg},
		{put(val("a", api.Val{})), api.ErrArg},
		{put(flag("f", 0)), api.OK},
		{put(flag("f", 2)), api.ErrArg},
		{put(flag("f", -1)), api.ErrArg},
		{put(val("f", api.Val{Kind: api.Flag, S: "x"})), api.ErrArg},
		{put(num("f", 1)), api.ErrArg},
		{put(text("t", "")), api.OK},
		{put(text("t", strings.Repeat("\xff'", 128))), api.OK},
		{put(text("t", strings.Repeat("x", 257))), api.ErrArg},
		{put(val("t", api.Val{Kind: api.Text, N: 1})), api.ErrArg},
		{put(num("t", 0)), api.ErrArg},
	}
	for i, c := range cases {
		turned := slices.Clone(c.args)
		slices.Reverse(turned)
		for _, l := range [][]api.Arg{c.args, turned} {
			if c.e == api.ErrExists {
				l = c.args // of two of one name no place is better
			}
			if e := weigh.Check(params, l); e != c.e {
				t.Errorf("%d: %v: %d, want %d", i, l, e, c.e)
			}
		}
		if v, e := weigh.Eval(params, parse(t, "true"), c.args); e != c.e || c.e != api.OK && v != (api.Val{}) {
			t.Errorf("%d: %v %d", i, v, e)
		}
		if l, e := weigh.Shut(params, nil, c.args); e != c.e || len(l) != 0 {
			t.Errorf("%d: %v %d", i, l, e)
		}
	}
	if e := weigh.Check([]api.Param{{Name: "or", Kind: 1}}, good); e != api.ErrName {
		t.Error(e)
	}
	if e := weigh.Check(nil, nil); e != api.OK {
		t.Error(e)
	}
	if e := weigh.Check(nil, good[:1]); e != api.ErrMissing {
		t.Error(e)
	}
}

// P10.1, P10.2: values.
func TestEval(t *testing.T) {
	big := "1000000000000000"
	for s, want := range map[string]api.Val{
		"a = 1 or b < 0": {Kind: api.Flag, N: 1}, "true": {Kind: api.Flag, N: 1}, "false": {Kind: api.Flag}, "7": {Kind: api.Num, N: 7}, "'x'": {Kind: api.Text, S: "x"},
		"a": {Kind: api.Num, N: 1}, "f": {Kind: api.Flag, N: 1}, "t": {Kind: api.Text, S: "mm"}, "not f": {Kind: api.Flag}, "not not f": {Kind: api.Flag, N: 1},
		"a + b": {Kind: api.Num, N: 6}, "a - b": {Kind: api.Num, N: -4}, "b * b - a": {Kind: api.Num, N: 24}, "b * -3": {Kind: api.Num, N: -15}, "0 * b": {Kind: api.Num}, "b * 0": {Kind: api.Num},
		"a = a": {Kind: api.Flag, N: 1}, "a = b": {Kind: api.Flag}, "t = 'mm'": {Kind: api.Flag, N: 1}, "t = 'm'": {Kind: api.Flag}, "f = true": {Kind: api.Flag, N: 1}, "f = false": {Kind: api.Flag}, "a != b": {Kind: api.Flag, N: 1},
		"a < b": {Kind: api.Flag, N: 1}, "b < a": {Kind: api.Flag}, "a < a": {Kind: api.Flag}, "a <= a": {Kind: api.Flag, N: 1}, "b <= a": {Kind: api.Flag}, "-2 < -1": {Kind: api.Flag, N: 1},
		"t < 'n'": {Kind: api.Flag, N: 1}, "t < 'm'": {Kind: api.Flag}, "t < 'mma'": {Kind: api.Flag, N: 1}, "t <= 'mm'": {Kind: api.Flag, N: 1}, "t <= 'ma'": {Kind: api.Flag}, "t < 'mm'": {Kind: api.Flag}, "'' < t": {Kind: api.Flag, N: 1}, "'Z' < 'a'": {Kind: api.Flag, N: 1},
		"f and a = 1 and b = 5": {Kind: api.Flag, N: 1}, "f and a = 2 and f": {Kind: api.Flag}, "f and f and a = 2": {Kind: api.Flag}, "a = 2 or b = 2": {Kind: api.Flag}, "a = 2 or a = 1 or a = 3": {Kind: api.Flag, N: 1},
		"b in [1, 5]": {Kind: api.Flag, N: 1}, "b in [1, 2]": {Kind: api.Flag}, "t in ['mm']": {Kind: api.Flag, N: 1}, "f in [false, (not f)]": {Kind: api.Flag}, "f in [false, f]": {Kind: api.Flag, N: 1},
		big + " + 0": {Kind: api.Num, N: 1e15}, "-" + big + " - 0": {Kind: api.Num, N: -1e15}, big + " * -1": {Kind: api.Num, N: -1e15}, "31622776 * 31622776": {Kind: api.Num, N: 999999961946176},
		// What isn't asked needs no value.
		"f or " + big + " + 1 = 1": {Kind: api.Flag, N: 1}, "a = 2 and " + big + " + 1 = 1": {Kind: api.Flag}, "a in [1, " + big + " + 1]": {Kind: api.Flag, N: 1},
	} {
		turned := slices.Clone(good)
		slices.Reverse(turned)
		for _, l := range [][]api.Arg{good, turned} {
			if v, e := weigh.Eval(params, parse(t, s), l); v != want || e != api.OK {
				t.Errorf("%s: %v %d", s, v, e)
			}
		}
	}
	for _, s := range []string{big + " + 1", big + " + a", "-" + big + " - 1", "-1 - " + big, big + " * 2", "31622777 * 31622777", big + " * " + big, "-" + big + " * " + big, "2 * -500000000000001", "b * 200000000000001",
		big + " + 1 - 1", "not (" + big + " + 1 = 1)", "f and " + big + " + 1 = 1", "a = 2 or " + big + " + 1 = 1", big + " + 1 = 1 or f", big + " + 1 = 1 and a = 2", "a in [2, " + big + " + 1, 1]", big + " + 1 in [1]", "1 = " + big + " * 2", "1 < " + big + " * 2", big + " * 2 <= 1", "1 * (" + big + " + 1)"} {
		if v, e := weigh.Eval(params, parse(t, s), good); v != (api.Val{}) || e != api.ErrLong {
			t.Errorf("%s: %v %d", s, v, e)
		}
	}
	for s, want := range map[string]api.Errno{"a + t": api.ErrArg, "x": api.ErrMissing} {
		if v, e := weigh.Eval(params, parse(t, s), nil); v != (api.Val{}) || e != want {
			t.Errorf("%s: %v %d", s, v, e)
		}
	}
	if _, e := weigh.Eval(params, api.Cond{}, nil); e != api.ErrForm {
		t.Error(e)
	}
}

// P10.1: gates.
func TestShut(t *testing.T) {
	gate := func(typ, rel, when string) api.Gate {
		return api.Gate{Ref: api.Ref{Type: typ, Rel: rel}, When: parse(t, when)}
	}
	cases := []struct {
		gates []api.Gate
		want  []api.Ref
		e     api.Errno
	}{
		{nil, nil, api.OK},
		{[]api.Gate{gate("b", "x", "not f"), gate("a", "y", "a = 2"), gate("a", "z", "f"), gate("a", "x", "b < a"), gate("b", "x", "false"), gate("c", "c", "true")}, []api.Ref{{Type: "a", Rel: "x"}, {Type: "a", Rel: "y"}, {Type: "b", Rel: "x"}}, api.OK},
		{[]api.Gate{gate("a", "x", "false"), gate("a", "x", "true")}, []api.Ref{{Type: "a", Rel: "x"}}, api.OK},
		{[]api.Gate{gate("a", "x", "false"), gate("a", "x", "a")}, nil, api.ErrArg},
		{[]api.Gate{gate("a", "x", "q"), gate("a", "x", "a")}, nil, api.ErrMissing},
		{[]api.Gate{gate("a", "x", "a"), gate("a", "x", "q")}, nil, api.ErrArg},
		{[]api.Gate{gate("a", "x", "1000000000000000 + a = 1"), {}}, nil, api.ErrForm},
		{[]api.Gate{gate("a", "x", "false"), gate("a", "x", "1000000000000000 + a = 1")}, nil, api.ErrLong},
	}
	for i, c := range cases {
		if l, e := weigh.Shut(params, c.gates, good); e != c.e || !slices.Equal(l, c.want) {
			t.Errorf("%d: %v %d", i, l, e)
		}
	}
	if _, e := weigh.Shut(params, []api.Gate{gate("a", "x", "a")}, nil); e != api.ErrArg {
		t.Error("gates are named ahead of arguments:", e)
	}
	if _, e := weigh.Shut(params, []api.Gate{gate("a", "x", "1000000000000000 + 1 = 1")}, good[1:]); e != api.ErrMissing {
		t.Error("arguments are named ahead of values:", e)
	}
	if _, e := weigh.Shut([]api.Param{{Name: "a"}}, nil, good); e != api.ErrForm {
		t.Error(e)
	}
}
