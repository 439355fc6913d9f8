package cond_test

import (
	"reflect"
	"slices"
	"strings"
	"testing"

	"sentry/api"
	"sentry/cond"
)

var (
	yes, no = api.Cond{Kind: api.IsTrue}, api.Cond{Kind: api.IsFalse}
	a, b, c = name("a"), name("b"), name("c")
)

func name(s string) api.Cond { return api.Cond{Kind: api.IsName, S: s} }
func text(s string) api.Cond { return api.Cond{Kind: api.IsText, S: s} }
func num(n int64) api.Cond   { return api.Cond{Kind: api.IsNum, N: n} }
func of(kind int, parts ...api.Cond) api.Cond {
	return api.Cond{Kind: kind, Parts: parts}
}
func or(l ...api.Cond) api.Cond  { return of(api.IsOr, l...) }
func and(l ...api.Cond) api.Cond { return of(api.IsAnd, l...) }
func not(l ...api.Cond) api.Cond { return of(api.IsNot, l...) }
func eq(l ...api.Cond) api.Cond  { return of(api.IsEq, l...) }

// P8.1: what texts make, and how that is printed (an empty print: as the text).
func TestParse(t *testing.T) {
	cases := []struct {
		text  string
		c     api.Cond
		print string
	}{
		{"a = 1 or not b", or(eq(a, num(1)), not(b)), ""},
		{"true", yes, ""}, {"false", no, ""}, {"'x y'", text("x y"), ""}, {"''", text(""), ""}, {"0", num(0), ""},
		{"1000000000000000", num(1e15), ""}, {"-1000000000000000", num(-1e15), ""}, {"-1", num(-1), ""},
		{"  a  ", a, "a"}, {"_", name("_"), ""}, {"android", name("android"), ""}, {"nota", name("nota"), ""}, {"a1_", name("a1_"), ""},
		{"trues", name("trues"), ""}, {strings.Repeat("n", 32), name(strings.Repeat("n", 32)), ""},
		{"a or b or c", or(a, b, c), ""}, {"a or (b or c)", or(a, b, c), "a or b or c"}, {"(a or b) or c", or(a, b, c), "a or b or c"}, {"((a or b))", or(a, b), "a or b"},
		{"a and b and c", and(a, b, c), ""}, {"a and (b and c)", and(a, b, c), "a and b and c"},
		{"a or b and c", or(a, and(b, c)), ""}, {"(a or b) and c", and(or(a, b), c), ""}, {"a and (b or c)", and(a, or(b, c)), ""},
		{"not not a", not(not(a)), ""}, {"not a and b", and(not(a), b), ""}, {"not (a and b)", not(and(a, b)), ""}, {"not (a)", not(a), "not a"},
		{"a = b", eq(a, b), ""}, {"a=b", eq(a, b), "a = b"}, {"a != b", not(eq(a, b)), ""}, {"not a = b", not(eq(a, b)), "a != b"}, {"not a != b", not(not(eq(a, b))), ""},
		{"not (a != b)", not(not(eq(a, b))), "not a != b"}, {"a!=b", not(eq(a, b)), "a != b"},
		{"a < b", of(api.IsLess, a, b), ""}, {"a <= b", of(api.IsMost, a, b), ""}, {"a > b", of(api.IsLess, b, a), "b < a"}, {"a >= b", of(api.IsMost, b, a), "b <= a"},
		{"a<=-1", of(api.IsMost, a, num(-1)), "a <= -1"}, {"a<-1", of(api.IsLess, a, num(-1)), "a < -1"}, {"a>=b", of(api.IsMost, b, a), "b <= a"},
		{"(a = b) = c", eq(eq(a, b), c), ""}, {"a = (b = c)", eq(a, eq(b, c)), ""}, {"(a != b) = c", eq(not(eq(a, b)), c), ""}, {"(not a) = b", eq(not(a), b), ""},
		{"a in [1]", of(api.IsIn, a, num(1)), ""}, {"a in[1,b ,'c']", of(api.IsIn, a, num(1), b, text("c")), "a in [1, b, 'c']"}, {"a in [b + 1, (b or c)]", of(api.IsIn, a, of(api.IsPlus, b, num(1)), or(b, c)), ""},
		{"(a in [b]) in [c]", of(api.IsIn, of(api.IsIn, a, b), c), ""}, {"not a in [b]", not(of(api.IsIn, a, b)), ""},
		{"a + b - c", of(api.IsMinus, of(api.IsPlus, a, b), c), ""}, {"a + (b - c)", of(api.IsPlus, a, of(api.IsMinus, b, c)), ""}, {"(a + b) - c", of(api.IsMinus, of(api.IsPlus, a, b), c), "a + b - c"},
		{"a * b * c", of(api.IsTimes, of(api.IsTimes, a, b), c), ""}, {"a * (b * c)", of(api.IsTimes, a, of(api.IsTimes, b, c)), ""},
		{"a + b * c", of(api.IsPlus, a, of(api.IsTimes, b, c)), ""}, {"(a + b) * c", of(api.IsTimes, of(api.IsPlus, a, b), c), ""}, {"a * (b + c)", of(api.IsTimes, a, of(api.IsPlus, b, c)), ""},
		{"a-1", of(api.IsMinus, a, num(1)), "a - 1"}, {"a - -1", of(api.IsMinus, a, num(-1)), ""}, {"a--1", of(api.IsMinus, a, num(-1)), "a - -1"}, {"a -1", of(api.IsMinus, a, num(1)), "a - 1"}, {"-1 - 1", of(api.IsMinus, num(-1), num(1)), ""},
		{"-1*-2", of(api.IsTimes, num(-1), num(-2)), "-1 * -2"}, {"1or 2", or(num(1), num(2)), "1 or 2"}, {"1 or(2)and'x'", or(num(1), and(num(2), text("x"))), "1 or 2 and 'x'"},
		{"'a'or'b'", or(text("a"), text("b")), "'a' or 'b'"}, {"'('", text("("), ""}, {"' ~'", text(" ~"), ""}, {strings.Repeat("(a) and ", 2*api.MaxDepth) + "a", and(slices.Repeat([]api.Cond{a}, 2*api.MaxDepth+1)...), strings.Repeat("a and ", 2*api.MaxDepth) + "a"},
		{strings.Repeat("(a or b) and ", 2*api.MaxDepth) + "a", and(append(slices.Repeat([]api.Cond{or(a, b)}, 2*api.MaxDepth), a)...), ""}, {"'not'", text("not"), ""}, {"a + b = c * a and not b", and(eq(of(api.IsPlus, a, b), of(api.IsTimes, c, a)), not(b)), ""},
		{strings.Repeat("(", api.MaxDepth) + "a" + strings.Repeat(")", api.MaxDepth), a, "a"},
		{"(a) and (b) and ((c) or (a))", and(a, b, or(c, a)), "a and b and (c or a)"},
	}
	for _, x := range cases {
		got, place, e := cond.Parse(x.text)
		if e != api.OK || place != 0 || !reflect.DeepEqual(got, x.c) {
			t.Errorf("%s: %v at %d, %d", x.text, got, place, e)
		}
		want := x.print
		if want == "" {
			want = x.text
		}
		if s, e := cond.Print(x.c); s != want || e != api.OK {
			t.Errorf("%s: printed %q %d", x.text, s, e)
		}
	}
}

// P8.1: the place of the first sign at which no text can go on.
func TestPlaces(t *testing.T) {
	deep := strings.Repeat("(", api.MaxDepth)
	cases := []struct {
		text  string
		place int
	}{
		{"", 0}, {"   ", 3}, {"1 +", 3}, {"1 + ", 4}, {"a or", 4}, {"not", 3}, {"(a", 2}, {"a)", 1}, {"()", 1}, {"a b", 2}, {"1 2", 2}, {"1a", 1}, {"a or or", 5}, {"or", 0}, {"and a", 0}, {"in", 0},
		{"a and", 5}, {"a = b = c", 6}, {"a = not b", 4}, {"a < b in [c]", 6}, {"a + not b", 4}, {"a ==b", 3}, {"a < =b", 4}, {"a <> b", 3}, {"a ! b", 2}, {"a !b", 2}, {"!a", 0}, {"!= a", 0},
		{"a in b", 5}, {"a in []", 6}, {"a in [b", 7}, {"a in [b,]", 8}, {"a in [b c]", 8}, {"a in [b or c]", 8}, {"a in (b)", 5}, {"[a]", 0}, {"a]", 1}, {"a,", 1}, {"a in [b))", 7},
		{"007", 0}, {"00", 0}, {"a + 01", 4}, {"1000000000000001", 0}, {"99999999999999999999", 0}, {"-0", 1}, {"-00", 1}, {"-1000000000000001", 1}, {"a * -0", 5}, {"a - 01", 4}, {"a - -01", 5},
		{"-", 0}, {"- 1", 0}, {"-a", 0}, {"a - - 1", 4}, {"a - -", 4}, {"a--b", 2}, {"-(1)", 0}, {"--1", 0}, {"-'a'", 0},
		{"'abc", 0}, {"a = 'x", 4}, {"'a\tb'", 0}, {"'é'", 0}, {"'a' 'b'", 4}, {"'a''b'", 3}, {"\ta", 0}, {"a\n", 1}, {"é", 0}, {"A", 0}, {"aB", 1}, {"a.b", 1}, {"a % b", 2}, {"a & b", 2}, {"\"a\"", 0},
		{"'\x7f'", 0}, {"'\x1f'", 0}, {strings.Repeat("n", 33), 0}, {"1 " + strings.Repeat("n", 33), 2}, {deep + "(a", 8}, {"a or " + deep + " (a", 14}, {"true false", 5}, {"true or not", 11}, {"a or2", 2}, {"a notb", 2}, {"a not", 2}, {"a true", 2}, {"1 007", 2},
	}
	for _, x := range cases {
		got, place, e := cond.Parse(x.text)
		if e != api.ErrForm || place != x.place || !reflect.DeepEqual(got, api.Cond{}) {
			t.Errorf("%q: %v at %d, %d, want at %d", x.text, got, place, e, x.place)
		}
	}
}

// P8.1: too much of something.
func TestLong(t *testing.T) {
	if _, place, e := cond.Parse(strings.Repeat(" ", 4095) + "a"); place != 0 || e != api.OK {
		t.Error(place, e)
	}
	if c, place, e := cond.Parse(strings.Repeat(" ", 4096) + "a"); place != 0 || e != api.ErrLong || c.Kind != 0 {
		t.Error(place, e)
	}
	most := "a" + strings.Repeat(" or a", api.MaxParts-2)
	if c, place, e := cond.Parse(most); place != 0 || e != api.OK || cond.Size(c) != api.MaxParts {
		t.Error(place, e)
	}
	for _, s := range []string{most + " or a", strings.Repeat("not ", api.MaxParts) + "a"} {
		if c, place, e := cond.Parse(s); place != 0 || e != api.ErrLong || c.Kind != 0 {
			t.Error(place, e)
		}
	}
	if _, place, e := cond.Parse(most + " or"); place != len(most)+3 || e != api.ErrForm {
		t.Error("a wrong form is named first:", place, e)
	}
	if _, _, e := cond.Parse(strings.Repeat("not ", 1023) + "a"); e != api.ErrLong {
		t.Error(e)
	}
}

func TestSize(t *testing.T) {
	deep := a
	for range 100000 {
		deep = not(deep)
	}
	for _, x := range []struct {
		c api.Cond
		n int
	}{{api.Cond{}, 1}, {a, 1}, {or(a, and(b, c, not(a)), b), 8}, {eq(eq(a, b), c), 5}, {deep, 100001}} {
		if n := cond.Size(x.c); n != x.n {
			t.Errorf("%d, want %d", n, x.n)
		}
	}
	if _, e := cond.Print(deep); e != api.ErrForm {
		t.Error("too deep:", e)
	}
}

// nest is a condition that needs n brackets within one another.
func nest(n int) api.Cond {
	x := a
	for range n {
		x = of(api.IsTimes, x, b)
		x = of(api.IsPlus, x, b)
	}
	return of(api.IsTimes, x, c)
}

// P8.1: what no text makes.
func TestNoText(t *testing.T) {
	bad := []api.Cond{
		{}, {Kind: 16}, {Kind: -1}, {Kind: api.IsTrue, N: 1}, {Kind: api.IsTrue, S: "x"}, of(api.IsTrue, a), {Kind: api.IsFalse, N: 1}, of(api.IsFalse, a),
		num(1e15 + 1), num(-1e15 - 1), num(-1 << 63), {Kind: api.IsNum, N: 1, S: "1"}, of(api.IsNum, a),
		text("'"), text("é"), text("\n"), text("\x7f"), {Kind: api.IsText, N: 1}, of(api.IsText, a),
		name(""), name("and"), name("or"), name("not"), name("in"), name("true"), name("false"), name("1a"), name("a-b"), name("A"), name("a b"), name(" a"), name("a "), name("'a'"), name(strings.Repeat("n", 33)),
		{Kind: api.IsName, S: "a", N: 1}, {Kind: api.IsName, S: "a", Parts: []api.Cond{a}},
		not(), not(a, b), {Kind: api.IsNot, N: 1, Parts: []api.Cond{a}}, {Kind: api.IsNot, S: "x", Parts: []api.Cond{a}},
		and(), and(a), or(), or(a), or(a, or(b, c)), and(and(a, b), c), and(a, api.Cond{}), or(a, and(b, and(a, c))),
		eq(), eq(a), eq(a, b, c), of(api.IsLess, a), of(api.IsMost, a, b, c), of(api.IsPlus, a), of(api.IsMinus, a), of(api.IsTimes, a, b, c), of(api.IsIn), of(api.IsIn, a),
		{Kind: api.IsEq, N: 1, Parts: []api.Cond{a, b}}, {Kind: api.IsOr, S: "x", Parts: []api.Cond{a, b}},
		nest(api.MaxDepth + 1), text(strings.Repeat("x", 4095)), or(text(strings.Repeat("x", 2048)), text(strings.Repeat("x", 2041))),
	}
	many := or()
	for range api.MaxParts {
		many.Parts = append(many.Parts, a)
	}
	for _, x := range append(bad, many) {
		if s, e := cond.Print(x); s != "" || e != api.ErrForm {
			t.Errorf("%v: %q %d", x, s, e)
		}
	}
	many.Parts = many.Parts[1:]
	for _, x := range []api.Cond{text(strings.Repeat("x", 4094)), or(text(strings.Repeat("x", 2048)), text(strings.Repeat("x", 2040))), nest(api.MaxDepth), many} {
		if _, e := cond.Print(x); e != api.OK {
			t.Error(e)
		}
	}
}

// draw makes conditions out of a row of numbers.
type draw uint32

func (d *draw) next(n int) int {
	*d = *d*1664525 + 1013904223
	return int(*d>>8) % n
}

func (d *draw) cond(depth int) api.Cond {
	if depth == 0 {
		return []api.Cond{yes, no, num(int64(d.next(5) - 2)), text("t"), a, b}[d.next(6)]
	}
	kind := api.IsNot + d.next(10)
	n := 2
	switch kind {
	case api.IsNot:
		n = 1
	case api.IsAnd, api.IsOr, api.IsIn:
		n = 2 + d.next(2)
	}
	x := api.Cond{Kind: kind}
	for len(x.Parts) < n {
		p := d.cond(d.next(depth))
		if p.Kind != kind || kind != api.IsAnd && kind != api.IsOr {
			x.Parts = append(x.Parts, p)
		}
	}
	return x
}

// P8.2.
func TestThereAndBack(t *testing.T) {
	d := draw(1)
	for range 3000 {
		x := d.cond(1 + d.next(5))
		s, e := cond.Print(x)
		if e != api.OK {
			t.Fatalf("%v: %d", x, e)
		}
		back, place, e := cond.Parse(s)
		if e != api.OK || place != 0 || !reflect.DeepEqual(back, x) {
			t.Fatalf("%s: %v %d %d", s, back, place, e)
		}
		again, _, e := cond.Parse(strings.ReplaceAll(s, " ", "  "))
		if e != api.OK || !reflect.DeepEqual(again, x) {
			t.Fatalf("%s: with more blanks: %v %d", s, again, e)
		}
		if strings.Contains(s, "(") {
			for i := range s { // no bracket is needless: without the pair it is another condition, or none
				if s[i] == '(' {
					if bare, _, e := cond.Parse(s[:i] + s[i+1:closing(s, i)] + s[closing(s, i)+1:]); e == api.OK && reflect.DeepEqual(bare, x) {
						t.Fatalf("%s: needless bracket at %d", s, i)
					}
				}
			}
		}
	}
}

// closing is the place of the bracket that closes the one at i (texts here have none).
func closing(s string, i int) int {
	depth := 0
	for j := i; ; j++ {
		switch s[j] {
		case '(':
			depth++
		case ')':
			depth--
			if depth == 0 {
				return j
			}
		}
	}
}
