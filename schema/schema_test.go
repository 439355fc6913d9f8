package schema_test

import (
	"reflect"
	"slices"
	"strings"
	"testing"

	"sentry/api"
	"sentry/schema"
)

var (
	this  = api.Rule{Kind: api.This}
	owner = same("owner")
)

func same(a string) api.Rule           { return api.Rule{Kind: api.Same, A: a} }
func via(a, b string) api.Rule         { return api.Rule{Kind: api.Via, A: a, B: b} }
func union(parts ...api.Rule) api.Rule { return api.Rule{Kind: api.Union, Parts: parts} }
func both(parts ...api.Rule) api.Rule  { return api.Rule{Kind: api.Both, Parts: parts} }

func one(r api.Rule) api.Schema {
	return api.Schema{Types: []api.Type{{Name: "doc", Rels: []api.Rel{{Name: "r", Rule: r}}}}}
}

// equal holds two schemas against each other; an empty list may be nil.
func equal(a, b api.Schema) bool {
	if len(a.Types) != len(b.Types) {
		return false
	}
	for i, t := range a.Types {
		u := b.Types[i]
		if t.Name != u.Name || len(t.Rels) != len(u.Rels) {
			return false
		}
		for j, r := range t.Rels {
			if !reflect.DeepEqual(r, u.Rels[j]) {
				return false
			}
		}
	}
	return true
}

// P5.1: rules.
func TestRules(t *testing.T) {
	cases := []struct {
		text string
		r    api.Rule
	}{
		{"this", this},
		{"owner", owner},
		{"type", same("type")},
		{"parent->viewer", via("parent", "viewer")},
		{"parent -> type", via("parent", "type")},
		{"a-->b-", via("a-", "b-")},
		{"a- -> b", via("a-", "b")},
		{"this | owner & parent->viewer", union(this, both(owner, via("parent", "viewer")))},
		{"this|owner&parent->viewer", union(this, both(owner, via("parent", "viewer")))},
		{"(this)", this},
		{"((a))", same("a")},
		{"(a | b) | c", union(same("a"), same("b"), same("c"))},
		{"a | (b | (c | d))", union(same("a"), same("b"), same("c"), same("d"))},
		{"(a & b) & (c & d)", both(same("a"), same("b"), same("c"), same("d"))},
		{"(a & b) | c", union(both(same("a"), same("b")), same("c"))},
		{"(a | b) & c", both(union(same("a"), same("b")), same("c"))},
		{"(((a | b)))", union(same("a"), same("b"))},
		{"a | a", union(same("a"), same("a"))},
		{"\t a \t|\tb ", union(same("a"), same("b"))},
		{strings.Repeat("(", api.MaxDepth) + "a" + strings.Repeat(")", api.MaxDepth), same("a")},
		{"(a) | (b) & ((c) | (d))", union(same("a"), both(same("b"), union(same("c"), same("d"))))},
		{strings.Repeat("x", api.MaxName), same(strings.Repeat("x", api.MaxName))},
		{strings.Repeat("(a) | ", 2*api.MaxDepth) + "(a)", union(slices.Repeat([]api.Rule{same("a")}, 2*api.MaxDepth+1)...)},
	}
	for _, c := range cases {
		s, line, e := schema.Parse("type doc\nr = " + c.text)
		if e != api.OK || line != 0 || !equal(s, one(c.r)) {
			t.Errorf("%s: %v %d %d", c.text, s, line, e)
		}
	}
}

// P5.1: lines.
func TestLines(t *testing.T) {
	text := "\n  // a remark = | ! \n type \t type \n\t// another\nr=this\n\ntype user\ntype doc\na = b\nb = this \t"
	want := api.Schema{Types: []api.Type{
		{Name: "type", Rels: []api.Rel{{Name: "r", Rule: this}}}, {Name: "user"},
		{Name: "doc", Rels: []api.Rel{{Name: "a", Rule: same("b")}, {Name: "b", Rule: this}}},
	}}
	if s, line, e := schema.Parse(text); e != api.OK || line != 0 || !equal(s, want) {
		t.Fatalf("%v %d %d", s, line, e)
	}
	for _, text := range []string{"", "\n\n", " \t\n// x"} {
		if s, line, e := schema.Parse(text); e != api.OK || line != 0 || len(s.Types) != 0 {
			t.Fatalf("%q: %v %d %d", text, s, line, e)
		}
	}
	twice, _, e := schema.Parse("type a\nr = this\nr = this\ntype a")
	if e != api.OK || len(twice.Types) != 2 || len(twice.Types[0].Rels) != 2 {
		t.Fatal("names may stand twice in a text")
	}
}

// P5.1: what is wrong, and in which line.
func TestWrong(t *testing.T) {
	deep := strings.Repeat("(", api.MaxDepth+1) + "a" + strings.Repeat(")", api.MaxDepth+1)
	long := strings.Repeat("x", api.MaxName+1)
	for _, line := range []string{"type", "type a b", "type this", "type A", "type " + long, "type a = b", "type = this", "typea", "this = a", "A = a", "r", "r =", "= a", "r a", "r == a",
		"r = ", "r = a b", "r = a |", "r = | a", "r = a || b", "r = a & ", "r = & a", "r = (a", "r = a)", "r = ()", "r = (a))", "r = a -> ", "r = -> a", "r = a -> this", "r = this -> a",
		"r = a - > b", "r = a -> b -> c", "r = a->(b)", "r = (a)->b", "r = a ! b", "r = a //", "r = a / b", "r = a, b", "r = a.b", "r = é", "r = a\r", "r = A", "r = " + long, "r = " + deep,
		"r = this this", "r = this a", "/ a", "r = a > b", "r = a = b"} {
		s, n, e := schema.Parse("type t\n\nr = this\n" + line + "\n?")
		if n != 4 || e != api.ErrForm || len(s.Types) != 0 {
			t.Errorf("%q: %v %d %d", line, s, n, e)
		}
	}
	for text, line := range map[string]int{"r = this\ntype t": 1, "\n\n// x\n a = b": 4, "?": 1} {
		if _, n, e := schema.Parse(text); n != line || e != api.ErrForm {
			t.Errorf("%q: %d %d", text, n, e)
		}
	}
}

// P5.1: long texts.
func TestLong(t *testing.T) {
	text := "type a\n" + strings.Repeat("\n", 65536-7)
	if s, line, e := schema.Parse(text); e != api.OK || line != 0 || len(s.Types) != 1 {
		t.Fatal(line, e)
	}
	if s, line, e := schema.Parse("?" + text); e != api.ErrLong || line != 0 || len(s.Types) != 0 {
		t.Fatal(line, e)
	}
}

// P5.1: what is printed, to the letter.
func TestPrint(t *testing.T) {
	s := api.Schema{Types: []api.Type{
		{Name: "user"}, {Name: "type"},
		{Name: "doc", Rels: []api.Rel{
			{Name: "owner", Rule: this},
			{Name: "viewer", Rule: union(this, both(owner, via("parent", "viewer"), union(same("type"), both(same("a"), same("b")))))},
			{Name: "owner", Rule: both(union(same("a"), this), same("b"))},
		}},
	}}
	want := "type user\ntype type\ntype doc\nowner = this\nviewer = this | owner & parent->viewer & (type | a & b)\nowner = (a | this) & b\n"
	if got, e := schema.Print(s); got != want || e != api.OK {
		t.Fatalf("%q %d", got, e)
	}
	if got, e := schema.Print(api.Schema{}); got != "" || e != api.OK {
		t.Fatalf("%q %d", got, e)
	}
}

// nest is a rule that needs n brackets within one another.
func nest(n int) api.Rule {
	r := both(same("a"), same("b"))
	for range n {
		r = both(union(r, same("c")), same("d"))
	}
	return r
}

// P5.1: schemas that no text can have.
func TestNoText(t *testing.T) {
	bad := []api.Rule{
		{}, {Kind: -1}, {Kind: 6}, {Kind: api.This, A: "a"}, {Kind: api.This, B: "a"}, {Kind: api.This, Parts: []api.Rule{this}},
		same(""), same("this"), same("A"), {Kind: api.Same, A: "a", B: "b"}, {Kind: api.Same, A: "a", Parts: []api.Rule{this, this}},
		via("a", ""), via("", "b"), via("this", "b"), via("a", "this"), via("a", "B"), {Kind: api.Via, A: "a", B: "b", Parts: []api.Rule{this}},
		union(), union(this), both(), both(this), union(this, union(this, owner)), both(both(this, owner), this),
		{Kind: api.Union, A: "a", Parts: []api.Rule{this, this}}, {Kind: api.Both, B: "a", Parts: []api.Rule{this, this}},
		union(this, api.Rule{}), both(this, union(this, same("this"))), nest(api.MaxDepth + 1), nest(1000),
	}
	for _, r := range bad {
		if s, e := schema.Print(one(r)); s != "" || e != api.ErrForm {
			t.Errorf("%v: %q %d", r, s, e)
		}
	}
	for _, name := range []string{"", "this", "A", "a b", strings.Repeat("x", api.MaxName+1)} {
		if _, e := schema.Print(api.Schema{Types: []api.Type{{Name: name}}}); e != api.ErrForm {
			t.Errorf("type %q", name)
		}
		if _, e := schema.Print(api.Schema{Types: []api.Type{{Name: "t", Rels: []api.Rel{{Name: name, Rule: this}}}}}); e != api.ErrForm {
			t.Errorf("relation %q", name)
		}
	}
	if _, e := schema.Print(api.Schema{Types: []api.Type{{Name: "t", Rels: []api.Rel{{Name: "type", Rule: this}}}}}); e != api.ErrForm {
		t.Error("relation type")
	}
}

// P5.2.
func TestThereAndBack(t *testing.T) {
	wide := both(slices.Repeat([]api.Rule{union(this, owner)}, 2*api.MaxDepth)...)
	rules := []api.Rule{wide, this, owner, same("type"), via("a-", "-b"), union(this, this), both(owner, via("a", "b")), union(both(this, owner), this),
		both(union(this, owner), union(owner, this, both(this, this))), nest(1), nest(3), nest(api.MaxDepth)}
	for _, a := range rules {
		for _, b := range rules {
			s := api.Schema{Types: []api.Type{{Name: "type", Rels: []api.Rel{{Name: "x", Rule: a}, {Name: "-", Rule: b}}}, {Name: "u"}}}
			text, e := schema.Print(s)
			if e != api.OK {
				t.Fatalf("%v: %d", s, e)
			}
			back, line, e := schema.Parse(text)
			if e != api.OK || line != 0 || !equal(back, s) {
				t.Fatalf("%s: %v %d %d", text, back, line, e)
			}
			again, _ := schema.Print(back)
			if again != text {
				t.Fatalf("%q %q", text, again)
			}
		}
	}
}
