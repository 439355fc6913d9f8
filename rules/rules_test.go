package rules_test

import (
	"slices"
	"strconv"
	"strings"
	"testing"

	"sentry/api"
	"sentry/rules"
	"sentry/schema"
	"sentry/tuple"
)

func parse(t *testing.T, lines ...string) api.Schema {
	t.Helper()
	s, line, e := schema.Parse(strings.Join(lines, "\n"))
	if e != api.OK {
		t.Fatalf("line %d: %d", line, e)
	}
	return s
}

// refs reads "doc#a user#b" as relations of types.
func refs(text string) []api.Ref {
	var l []api.Ref
	for _, w := range strings.Fields(text) {
		a, b, _ := strings.Cut(w, "#")
		l = append(l, api.Ref{Type: a, Rel: b})
	}
	return l
}

var sample = []string{
	"type user",
	"type group", "member = this | owner", "owner = this",
	"type folder", "parent = this", "owner = this", "viewer = owner | parent->viewer",
	"type doc", "parent = this", "owner = this & group", "group = this", "viewer = (this | owner) & parent->viewer", "alone = alone", "far = group->owner",
}

func rows(n int, line func(i int) string) []string {
	var l []string
	for i := range n {
		l = append(l, line(i))
	}
	return l
}

// P6.1: which schemas may be.
func TestCheck(t *testing.T) {
	num := strconv.Itoa
	types := func(n int) []string { return rows(n, func(i int) string { return "type t" + num(i) }) }
	rels := func(n int) []string {
		return append([]string{"type t"}, rows(n, func(i int) string { return "r" + num(i) + " = this" })...)
	}
	parts := func(n int) []string { return []string{"type t", "r = this" + strings.Repeat(" | this", n-2)} }
	cases := []struct {
		lines []string
		e     api.Errno
	}{
		{nil, api.OK},
		{sample, api.OK},
		{types(api.MaxTypes), api.OK},
		{types(api.MaxTypes + 1), api.ErrLong},
		{rels(api.MaxRels), api.OK},
		{rels(api.MaxRels + 1), api.ErrLong},
		{parts(api.MaxRule), api.OK},
		{parts(api.MaxRule + 1), api.ErrLong},
		{[]string{"type t", "r = this | (this | " + strings.Repeat("this & ", 27) + "this)"}, api.OK},
		{[]string{"type t", "r = this | (this | " + strings.Repeat("this & ", 28) + "this)"}, api.ErrLong},
		{[]string{"type a", "type b", "type a"}, api.ErrExists},
		{[]string{"type a", "r = this", "s = this", "r = this"}, api.ErrExists},
		{[]string{"type a", "r = this", "type b", "r = this"}, api.OK},
		{[]string{"type a", "a = this"}, api.OK},
		{[]string{"type a", "r = s"}, api.ErrName},
		{[]string{"type a", "r = s", "type b", "s = this"}, api.ErrName},
		{[]string{"type a", "r = this | this & s"}, api.ErrName},
		{[]string{"type a", "r = s->r"}, api.ErrName},
		{[]string{"type a", "r = this", "s = r->t"}, api.ErrName},
		{[]string{"type a", "r = this", "s = r->t", "type b", "t = this"}, api.OK},
		{[]string{"type a", "r = type"}, api.ErrName},
		{append(types(api.MaxTypes+1), "r = nobody", "r = this"), api.ErrLong},
		{append(types(2), "r = nobody", "r = this"), api.ErrExists},
	}
	for _, c := range cases {
		if e := rules.Check(parse(t, c.lines...)); e != c.e {
			t.Errorf("%q: %d, want %d", c.lines, e, c.e)
		}
	}
	many := parse(t, types(api.MaxTypes+1)...)
	many.Types[0].Name = "this"
	if e := rules.Check(many); e != api.ErrForm {
		t.Errorf("no text is named first: %d", e)
	}
	if e := rules.Check(api.Schema{Types: []api.Type{{Name: "t", Rels: []api.Rel{{Name: "r"}}}}}); e != api.ErrForm {
		t.Errorf("no kind: %d", e)
	}
}

func TestFind(t *testing.T) {
	s := parse(t, "type a", "r = x | y", "r = this", "type b", "s = this", "type a", "q = this")
	r, ok := rules.Find(s, "a", "r")
	if !ok || r.Kind != api.Union || len(r.Parts) != 2 {
		t.Fatal(r, ok)
	}
	r.Parts[0].A = "changed"
	if s.Types[0].Rels[0].Rule.Parts[0].A != "x" {
		t.Fatal("the answer shares memory")
	}
	for _, p := range [][2]string{{"a", "q"}, {"a", "s"}, {"c", "r"}, {"", ""}, {"b", ""}} {
		if r, ok := rules.Find(s, p[0], p[1]); ok || r.Kind != 0 || r.Parts != nil {
			t.Errorf("%v: %v", p, r)
		}
	}
}

func TestNeeds(t *testing.T) {
	s := parse(t, sample...)
	for of, want := range map[string]string{
		"group#member":  "group#owner",
		"group#owner":   "",
		"folder#viewer": "doc#viewer folder#owner folder#parent folder#viewer",
		"doc#viewer":    "doc#owner doc#parent doc#viewer folder#viewer",
		"doc#alone":     "doc#alone",
		"doc#far":       "doc#group doc#owner folder#owner group#owner",
		"doc#none":      "", "none#a": "",
	} {
		if got := rules.Needs(s, refs(of)[0]); !slices.Equal(got, refs(want)) {
			t.Errorf("%s: %v", of, got)
		}
	}
}

// P6.1, P6.2.
func TestClosure(t *testing.T) {
	s := parse(t, sample...)
	for of, want := range map[string]string{
		"group#member":  "group#member group#owner",
		"group#owner":   "group#owner",
		"doc#alone":     "doc#alone",
		"doc#owner":     "doc#group doc#owner",
		"folder#viewer": "doc#group doc#owner doc#parent doc#viewer folder#owner folder#parent folder#viewer",
		"doc#none":      "", "none#a": "",
	} {
		got := rules.Closure(s, refs(of)[0])
		if !slices.Equal(got, refs(want)) {
			t.Errorf("%s: %v", of, got)
		}
		for _, r := range got {
			for _, n := range rules.Needs(s, r) {
				if !slices.Contains(got, n) {
					t.Errorf("%s: %v needs %v", of, r, n)
				}
			}
		}
	}
}

func TestBarren(t *testing.T) {
	cases := []struct{ lines, want string }{
		{"type doc\na = b\nb = a", "doc#a doc#b"},
		{"type doc\na = this", ""},
		{"type doc\nb = a | c\na = this\nc = c", "doc#c"},
		{"type doc\na = this & b\nb = b", "doc#a doc#b"},
		{"type doc\na = (b | this) & this\nb = b", "doc#b"},
		{"type z\na = p->a | this\np = this\ntype b\na = p->a\np = this\nx = p->y\ny = y", "b#x b#y"},
		{"type b\na = p->a\np = p\ntype c\na = this", "b#a b#p"},
		{"type b\na = p->r\np = this\nr = r\ntype c\nr = r", "b#a b#r c#r"},
		{"type b\na = p->r\np = this\nr = r\ntype c\nr = this", "b#r"},
		{"type z\nr = r\ntype a\nr = r\nq = r", "a#q a#r z#r"},
		{"", ""},
	}
	for _, c := range cases {
		if got := rules.Barren(parse(t, c.lines)); !slices.Equal(got, refs(c.want)) {
			t.Errorf("%q: %v", c.lines, got)
		}
	}
}

func TestWrites(t *testing.T) {
	s := parse(t, sample...)
	for text, want := range map[string]api.Errno{
		"doc:1#viewer@user:2":         api.OK,
		"doc:1#viewer@group:2#member": api.OK,
		"doc:1#viewer@group:2":        api.OK,
		"doc:1#owner@doc:1#alone":     api.OK,
		"doc:1#none@user:2":           api.ErrMissing,
		"none:1#viewer@user:2":        api.ErrMissing,
		"user:1#viewer@user:2":        api.ErrMissing,
		"doc:1#viewer@none:2":         api.ErrMissing,
		"doc:1#viewer@user:2#member":  api.ErrMissing,
		"doc:1#viewer@group:2#viewer": api.ErrMissing,
		"doc:1#alone@user:2":          api.ErrForm,
		"doc:1#far@user:2":            api.ErrForm,
		"folder:1#viewer@user:2":      api.ErrForm,
		"doc:1#alone@none:2":          api.ErrMissing,
	} {
		x, _ := tuple.Parse(text)
		if e := rules.Writes(s, x); e != want {
			t.Errorf("%s: %d", text, e)
		}
	}
	x, _ := tuple.Parse("none:1#none@none:2")
	x.Sub.Obj.ID = ""
	if e := rules.Writes(s, x); e != api.ErrName {
		t.Errorf("a tuple that may not be: %d", e)
	}
}
