package index_test

import (
	"slices"
	"strings"
	"testing"

	"sentry/api"
	"sentry/index"
	"sentry/tuple"
)

func parse(t *testing.T, s string) api.Tuple {
	t.Helper()
	x, e := tuple.Parse(s)
	if e != api.OK {
		t.Fatal(s)
	}
	return x
}

func tuples(t *testing.T) []api.Tuple {
	t.Helper()
	var l []api.Tuple
	for _, obj := range []string{"doc:1", "doc:10", "doc:1-", "do:1", "doc-:1", "doc1:1"} {
		for _, rel := range []string{"v", "v-", "vv"} {
			for _, sub := range []string{"user:1", "user:10", "user:1#m", "user:1#m-", "doc:1", "doc:1#v", "use:1"} {
				l = append(l, parse(t, obj+"#"+rel+"@"+sub))
			}
		}
	}
	return l
}

// P24.1: keys.
func TestKeys(t *testing.T) {
	for text, want := range map[string][]string{
		"doc:1#viewer@group:3#member": {"fdoc\x001\x00viewer\x00group\x003\x00member\x00", "rgroup\x003\x00member\x00doc\x001\x00viewer\x00"},
		"doc:1#viewer@user:2":         {"fdoc\x001\x00viewer\x00user\x002\x00\x00", "ruser\x002\x00\x00doc\x001\x00viewer\x00"},
	} {
		if got, e := index.Keys(parse(t, text)); e != api.OK || !slices.Equal(got, want) {
			t.Errorf("%s: %q %d", text, got, e)
		}
	}
	for _, x := range tuples(t) {
		keys, e := index.Keys(x)
		key, _ := tuple.Key(x)
		if e != api.OK || len(keys) != 2 || keys[0] != "f"+key {
			t.Fatal(x, keys, e)
		}
		for i, k := range keys {
			if got, ahead, e := index.Tuple(k); got != x || ahead != (i == 0) || e != api.OK {
				t.Fatal(x, got, ahead, e)
			}
		}
	}
	bad := parse(t, "doc:1#viewer@user:2")
	bad.Sub.Obj.ID = ""
	if keys, e := index.Keys(bad); e != api.ErrName || len(keys) != 0 {
		t.Error(keys, e)
	}
}

// P24.1: what is no key.
func TestNoKey(t *testing.T) {
	keys, _ := index.Keys(parse(t, "doc:1#viewer@group:3#member"))
	bad := []string{"", "f", "r", "x" + keys[0][1:], "r" + keys[1][1:] + "x", keys[1] + "\x00", keys[1][:len(keys[1])-1], strings.Replace(keys[1], "doc", "Doc", 1), strings.Replace(keys[1], "doc", "", 1), "F" + keys[0], "f\x00\x00\x00\x00\x00\x00", "r\x00\x00\x00\x00\x00\x00"}
	for _, k := range keys {
		for i := range k {
			bad = append(bad, k[:i])
		}
	}
	for _, k := range bad {
		if x, ahead, e := index.Tuple(k); e != api.ErrForm || ahead || x != (api.Tuple{}) {
			t.Errorf("%q: %v %t %d", k, x, ahead, e)
		}
	}
	// A relation that is empty isn't one, though a subject's may be.
	if _, _, e := index.Tuple("ruser\x002\x00m\x00doc\x001\x00\x00"); e != api.ErrForm {
		t.Error(e)
	}
	if _, _, e := index.Tuple("ruser\x002\x00\x00doc\x001\x00v\x00"); e != api.OK {
		t.Error(e)
	}
}

// P24.2: a range has just its keys.
func TestRanges(t *testing.T) {
	if from, to := index.Type("doc"); from != "fdoc\x00" || to != "fdoc\x01" {
		t.Errorf("%q %q", from, to)
	}
	all := tuples(t)
	has := func(from, to string, want func(x api.Tuple, ahead bool) bool) {
		t.Helper()
		for _, x := range all {
			keys, _ := index.Keys(x)
			for i, k := range keys {
				if (from <= k && k < to) != want(x, i == 0) {
					t.Fatalf("from %q to %q: %q", from, to, k)
				}
			}
		}
	}
	for _, y := range all {
		from, to := index.Point(y.Obj, y.Rel)
		has(from, to, func(x api.Tuple, ahead bool) bool { return ahead && x.Obj == y.Obj && x.Rel == y.Rel })
		from, to = index.Subject(y.Sub)
		has(from, to, func(x api.Tuple, ahead bool) bool { return !ahead && x.Sub == y.Sub })
		from, to = index.Type(y.Obj.Type)
		has(from, to, func(x api.Tuple, ahead bool) bool { return ahead && x.Obj.Type == y.Obj.Type })
	}
}

func TestEntries(t *testing.T) {
	a, b := parse(t, "doc:2#v@user:1"), parse(t, "doc:1#v@user:1")
	ka, _ := index.Keys(a)
	kb, _ := index.Keys(b)
	got, e := index.Entries([]api.Write{{Tuple: a}, {Tuple: b, Del: true}})
	want := []api.Entry{{Key: ka[0]}, {Key: ka[1]}, {Key: kb[0], Del: true}, {Key: kb[1], Del: true}}
	if e != api.OK || !slices.Equal(got, want) {
		t.Error(got, e)
	}
	if got, e := index.Entries(nil); e != api.OK || len(got) != 0 {
		t.Error(got, e)
	}
	if got, e := index.Entries([]api.Write{{Tuple: a}, {Del: true}}); e != api.ErrName || len(got) != 0 {
		t.Error(got, e)
	}
}
