package diff_test

import (
	"slices"
	"strings"
	"testing"

	"sentry/api"
	"sentry/diff"
	"sentry/schema"
	"sentry/tuple"
)

func parse(t *testing.T, text string) api.Schema {
	t.Helper()
	s, line, e := schema.Parse(strings.ReplaceAll(text, "; ", "\n"))
	if e != api.OK {
		t.Fatalf("%q, line %d: %d", text, line, e)
	}
	return s
}

// changes reads "+doc -doc#a ~doc#b" as changes.
func changes(text string) []api.Change {
	var l []api.Change
	for _, w := range strings.Fields(text) {
		a, b, _ := strings.Cut(w[1:], "#")
		l = append(l, api.Change{Kind: strings.Index("+-~", w[:1]) + 1, Ref: api.Ref{Type: a, Rel: b}})
	}
	return l
}

var schemas = []string{
	"",
	"type doc; a = this",
	"type doc; b = this",
	"type doc; a = this; b = a",
	"type doc; b = this | a; a = this",
	"type user; type doc; b = a | this; a = this; c = a->b",
	"type doc; c = (a | b) & this; a = this; b = a; type group; m = this",
	"type zoo; m = this; n = m->m; type user; type doc; z = this; a = z | z",
}

// P7.1: what differs.
func TestDiff(t *testing.T) {
	cases := []struct{ a, b, want string }{
		{schemas[1], schemas[2], "-doc#a +doc#b"},
		{schemas[1], schemas[1], ""},
		{"", schemas[6], "+doc +group"},
		{schemas[6], "", "-doc -group"},
		{"type b; x = this; type a", "type a; type b; x = this", ""},
		{"type a; x = this; y = this", "type a; y = this; x = this", ""},
		{"type a; x = this; y = this | x", "type a; x = this; y = x | this", "~a#y"},
		{"type a; x = this", "type a; x = this & this", "~a#x"},
		{"type p; x = this; type q; x = this", "type q; x = this; y = x; type r; x = this", "-p +q#y +r"},
		{"type b; z = this; y = this; x = this", "type b; z = z; w = this; x = this; type a", "+a +b#w -b#y ~b#z"},
		{"type a; type a-; x = this", "type a; x = this; type a-", "+a#x -a-#x"},
		{"type a; x = this; y = x; z = x->y", "type a; x = this; y = x; z = y->x", "~a#z"},
	}
	for _, c := range cases {
		got, e := diff.Diff(parse(t, c.a), parse(t, c.b))
		if e != api.OK || !slices.Equal(got, changes(c.want)) {
			t.Errorf("%q, %q: %v %d", c.a, c.b, got, e)
		}
	}
}

// P7.1: errors of the first one, then of the second one.
func TestErrors(t *testing.T) {
	good, exists, name := parse(t, "type a"), parse(t, "type a; type a"), parse(t, "type a; r = x")
	form := api.Schema{Types: []api.Type{{}}}
	for _, c := range []struct {
		a, b api.Schema
		e    api.Errno
	}{{exists, good, api.ErrExists}, {good, exists, api.ErrExists}, {exists, name, api.ErrExists}, {name, exists, api.ErrName}, {form, name, api.ErrForm}, {good, form, api.ErrForm}} {
		if l, e := diff.Diff(c.a, c.b); e != c.e || len(l) != 0 {
			t.Errorf("%v %v: %d", c.a, c.b, e)
		}
		if s, e := diff.Apply(c.a, []api.Change{{Kind: 9}}, c.b); e != c.e || len(s.Types) != 0 {
			t.Errorf("%v %v: %d", c.a, c.b, e)
		}
	}
}

// P7.1: to what a schema becomes.
func TestApply(t *testing.T) {
	cases := []struct{ a, b, want string }{
		{"type doc; a = this; type user", "type user; x = this; type doc; b = this", "type doc; b = this; type user; x = this"},
		{"type c; r = this; s = r; t = this; type b; type a", "type d; type a; q = this; type c; u = this; t = u; r = this", "type c; r = this; t = u; u = this; type a; q = this; type d"},
		{"", "type b; y = x; x = this; type a", "type b; y = x; x = this; type a"},
		{"type a; x = this", "", ""},
	}
	for _, c := range cases {
		a, b := parse(t, c.a), parse(t, c.b)
		l, _ := diff.Diff(a, b)
		got, e := diff.Apply(a, l, b)
		text, _ := schema.Print(got)
		want, _ := schema.Print(parse(t, c.want))
		if e != api.OK || text != want {
			t.Errorf("%q, %q: %q %d", c.a, c.b, text, e)
		}
	}
	a, b := parse(t, schemas[3]), parse(t, schemas[6])
	l, _ := diff.Diff(a, b)
	turned := slices.Clone(l)
	slices.Reverse(turned)
	other := slices.Clone(l)
	other[0].Kind = api.Changed
	for _, x := range [][]api.Change{nil, l[:1], append(slices.Clone(l), l[0]), turned, other} {
		if s, e := diff.Apply(a, x, b); e != api.ErrForm || len(s.Types) != 0 {
			t.Errorf("%v: %d", x, e)
		}
	}
	s, _ := diff.Apply(a, l, b)
	s.Types[0].Rels[2].Rule.Parts[0].Kind = 7
	if again, _ := schema.Print(b); again == "" {
		t.Error("the answer shares memory")
	}
}

// P7.2: what comes of it differs in order alone.
func TestBecomes(t *testing.T) {
	for _, x := range schemas {
		for _, y := range schemas {
			a, b := parse(t, x), parse(t, y)
			l, e := diff.Diff(a, b)
			if e != api.OK {
				t.Fatal(e)
			}
			s, e := diff.Apply(a, l, b)
			if e != api.OK {
				t.Fatal(e)
			}
			for _, d := range [][2]api.Schema{{s, b}, {b, s}} {
				if rest, e := diff.Diff(d[0], d[1]); e != api.OK || len(rest) != 0 {
					t.Errorf("%q, %q: %v %d", x, y, rest, e)
				}
			}
		}
	}
}

func tuples(t *testing.T, text string) []api.Tuple {
	t.Helper()
	var l []api.Tuple
	for _, w := range strings.Fields(text) {
		x, e := tuple.Parse(w)
		if e != api.OK {
			t.Fatal(w)
		}
		l = append(l, x)
	}
	return l
}

// P7.1: tuples that break.
func TestBreaks(t *testing.T) {
	a := parse(t, "type user; type doc; r = this; s = this; t = r")
	b := parse(t, "type user; type doc; s = this; r = s; t = this")
	l := tuples(t, "doc:2#r@user:1 doc:1#s@user:1 doc:1#r@user:1 doc:1#t@user:1 doc:1#none@user:1 doc:1#r@none:1 doc:1#s@doc:1#none")
	want := tuples(t, "doc:2#r@user:1 doc:1#r@user:1 doc:1#none@user:1 doc:1#r@none:1 doc:1#s@doc:1#none")
	if got := diff.Breaks(b, l); !slices.Equal(got, want) {
		t.Errorf("%v", got)
	}
	if got := diff.Breaks(b, append(l[:0:0], api.Tuple{}, l[1], api.Tuple{})); len(got) != 2 {
		t.Errorf("%v", got)
	}
	for text, safe := range map[string]bool{"": true, "doc:1#s@user:1 doc:1#none@user:1 doc:1#r@none:1 doc:1#t@user:1": true, "doc:1#s@user:1 doc:1#r@user:1": false} {
		if diff.Safe(a, b, tuples(t, text)) != safe {
			t.Errorf("%q", text)
		}
	}
	if !diff.Safe(a, b, []api.Tuple{{}}) {
		t.Error("what may not be written by a counts for nothing")
	}
}
