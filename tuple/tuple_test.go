package tuple_test

import (
	"slices"
	"strings"
	"testing"

	"sentry/api"
	"sentry/tuple"
)

func make6(p ...string) api.Tuple {
	return api.Tuple{Obj: api.Obj{Type: p[0], ID: p[1]}, Rel: p[2], Sub: api.Sub{Obj: api.Obj{Type: p[3], ID: p[4]}, Rel: p[5]}}
}

var long = strings.Repeat("n", api.MaxName)

var badNames = []string{"A", "é", ".", " ", "a b", "a\x00", ":", "#", "@", "/", "`", "{", long + "n"}

// P4.1: names.
func TestIsName(t *testing.T) {
	for _, s := range []string{"a", "z", "0", "9", "_", "-", "a-b_c", "007", long} {
		if !tuple.IsName(s) {
			t.Errorf("%q is a name", s)
		}
	}
	for _, s := range append(badNames, "") {
		if tuple.IsName(s) {
			t.Errorf("%q is no name", s)
		}
	}
}

// P4.1, P4.2: tuples that may be, there and back.
func TestGood(t *testing.T) {
	cases := []struct {
		t         api.Tuple
		text, key string
	}{
		{make6("doc", "1", "viewer", "group", "3", "member"), "doc:1#viewer@group:3#member", "doc\x001\x00viewer\x00group\x003\x00member\x00"},
		{make6("doc", "1", "viewer", "user", "2", ""), "doc:1#viewer@user:2", "doc\x001\x00viewer\x00user\x002\x00\x00"},
		{make6("a-", "_", "-", "0", long, "-_"), "a-:_#-@0:" + long + "#-_", "a-\x00_\x00-\x000\x00" + long + "\x00-_\x00"},
	}
	for _, c := range cases {
		if e := tuple.Check(c.t); e != api.OK {
			t.Errorf("%v: %d", c.t, e)
		}
		if s, e := tuple.Print(c.t); s != c.text || e != api.OK {
			t.Errorf("%v: %q %d", c.t, s, e)
		}
		if s, e := tuple.Key(c.t); s != c.key || e != api.OK {
			t.Errorf("%v: %q %d", c.t, s, e)
		}
		if got, e := tuple.Parse(c.text); got != c.t || e != api.OK {
			t.Errorf("%q: %v %d", c.text, got, e)
		}
		if got, e := tuple.Unkey(c.key); got != c.t || e != api.OK {
			t.Errorf("%q: %v %d", c.key, got, e)
		}
	}
}

// P4.1: tuples that may not be.
func TestBad(t *testing.T) {
	good := []string{"doc", "1", "viewer", "group", "3", "member"}
	for i := range good {
		bad := slices.Clone(badNames)
		if i < 5 {
			bad = append(bad, "")
		}
		for _, s := range bad {
			p := slices.Clone(good)
			p[i] = s
			x := make6(p...)
			text, e1 := tuple.Print(x)
			key, e2 := tuple.Key(x)
			if tuple.Check(x) != api.ErrName || e1 != api.ErrName || e2 != api.ErrName || text != "" || key != "" {
				t.Errorf("%v", x)
			}
		}
	}
}

func TestNoText(t *testing.T) {
	bad := []string{"", ":", "doc", "doc:1", "doc:1#viewer", "doc:1#viewer@", "doc:1#viewer@user", "doc:1#viewer@user:", "doc:1#viewer@user:2#",
		"doc:1#viewer@user:2#a#b", "doc:1#viewer@user:2:3", "doc:1@viewer#user:2", "doc:1#viewer@user:2 ", " doc:1#viewer@user:2", "doc:1#viewer@user:2\n",
		"doc:1##viewer@user:2", "doc::1#viewer@user:2", "doc#viewer@user:2", "doc:1viewer@user:2", "Doc:1#viewer@user:2", ":1#viewer@user:2", "doc:#viewer@user:2", "doc:1#@user:2"}
	for _, s := range bad {
		if got, e := tuple.Parse(s); e != api.ErrForm || got != (api.Tuple{}) {
			t.Errorf("%q: %v %d", s, got, e)
		}
	}
	good := "doc\x001\x00viewer\x00user\x002\x00\x00"
	bad = []string{"", "doc", good + "x", good + "\x00", "\x00" + good, good[:len(good)-1], "Doc" + good[3:], good[3:], strings.Repeat("\x00", 6)}
	for i := range good {
		bad = append(bad, good[:i])
	}
	for _, s := range bad {
		if got, e := tuple.Unkey(s); e != api.ErrForm || got != (api.Tuple{}) {
			t.Errorf("%q: %v %d", s, got, e)
		}
	}
}

// P4.1, P4.3: order of tuples, and of keys.
func TestCmp(t *testing.T) {
	var l []api.Tuple
	names := []string{"a", "a-", "a0", "aa", "b"}
	for i := range 6 {
		for _, n := range names {
			for _, m := range []string{"a", "b"} {
				p := []string{"a", "a", "a", m, "a", "a"}
				p[i] = n
				l = append(l, make6(p...))
			}
		}
	}
	l = append(l, make6("a", "a", "a", "a", "a", ""))
	for _, a := range l {
		ka, _ := tuple.Key(a)
		pa := []string{a.Obj.Type, a.Obj.ID, a.Rel, a.Sub.Obj.Type, a.Sub.Obj.ID, a.Sub.Rel}
		for _, b := range l {
			kb, _ := tuple.Key(b)
			pb := []string{b.Obj.Type, b.Obj.ID, b.Rel, b.Sub.Obj.Type, b.Sub.Obj.ID, b.Sub.Rel}
			want := slices.Compare(pa, pb)
			if tuple.Cmp(a, b) != want || strings.Compare(ka, kb) != want {
				t.Fatalf("%v %v: %d", a, b, tuple.Cmp(a, b))
			}
			if a != b && strings.HasPrefix(ka, kb) {
				t.Fatalf("%q begins with %q", ka, kb)
			}
		}
	}
	if tuple.Cmp(make6("", "B", "", "", "", ""), make6("", "A\x00", "", "", "", "")) != 1 {
		t.Fatal("any two are held against each other")
	}
}

func TestMatch(t *testing.T) {
	x := make6("doc", "1", "viewer", "user", "2", "")
	cases := []struct {
		f  api.Filter
		ok bool
	}{
		{api.Filter{}, true},
		{api.Filter{Type: "doc"}, true},
		{api.Filter{ID: "1"}, true},
		{api.Filter{Rel: "viewer"}, true},
		{api.Filter{Type: "doc", ID: "1", Rel: "viewer"}, true},
		{api.Filter{Type: "user"}, false},
		{api.Filter{ID: "2"}, false},
		{api.Filter{Rel: "view"}, false},
		{api.Filter{Type: "doc", ID: "1", Rel: "owner"}, false},
		{api.Filter{Type: "do"}, false},
	}
	for _, c := range cases {
		if tuple.Match(c.f, x) != c.ok {
			t.Errorf("%v", c.f)
		}
	}
}
