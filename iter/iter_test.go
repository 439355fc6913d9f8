package iter_test

import (
	"math"
	"slices"
	"strconv"
	"strings"
	"testing"

	"sentry/api"
	"sentry/codec"
	"sentry/drop"
	"sentry/iter"
)

// row reads "a5 a3- b1" as inner keys: a at 5, a taken away at 3, b at 1.
func row(text string) iter.Rows {
	var l iter.Rows
	for _, w := range strings.Fields(text) {
		del := strings.HasSuffix(w, "-")
		rev, _ := strconv.Atoi(strings.Trim(w[1:], "-"))
		l = append(l, codec.Inner(api.Entry{Key: w[:1], Rev: uint64(rev), Del: del}))
	}
	slices.Sort(l)
	return l
}

// fixed answers the same, whatever it is asked.
type fixed struct {
	key string
	ok  bool
	e   api.Errno
}

func (f fixed) Seek(string) (string, bool, api.Errno) { return f.key, f.ok, f.e }

// P19.1: rows.
func TestRows(t *testing.T) {
	r := iter.Rows{"b", "d"}
	for key, want := range map[string]string{"": "b", "a": "b", "b": "b", "b\x00": "d", "d": "d", "e": ""} {
		if k, ok, e := r.Seek(key); k != want || ok != (want != "") || e != api.OK {
			t.Errorf("%q: %q %t %d", key, k, ok, e)
		}
	}
	if k, ok, e := iter.Rows(nil).Seek(""); k != "" || ok || e != api.OK {
		t.Error(k, ok, e)
	}
}

// P19.1: the chapter's example.
func TestExample(t *testing.T) {
	l := []iter.Source{row("a3- a2")}
	if x, ok, e := iter.Get(l, "a", 2); x != (api.Entry{Key: "a", Rev: 2}) || !ok || e != api.OK {
		t.Error(x, ok, e)
	}
	if x, ok, e := iter.Get(l, "a", 3); x != (api.Entry{Key: "a", Rev: 3, Del: true}) || !ok || e != api.OK {
		t.Error(x, ok, e)
	}
	if x, ok, e := iter.Get(l, "a", 1); x != (api.Entry{}) || ok || e != api.OK {
		t.Error(x, ok, e)
	}
	if x, ok, e := iter.Get(l, "", 9); x != (api.Entry{}) || ok || e != api.OK {
		t.Error(x, ok, e)
	}
	if keys, e := iter.Scan(l, "", "", 3, 0); len(keys) != 0 || e != api.OK {
		t.Error(keys, e)
	}
	if keys, e := iter.Scan(l, "", "", 2, 0); !slices.Equal(keys, []string{"a"}) || e != api.OK {
		t.Error(keys, e)
	}
}

// P19.1, P19.2: against one row of all keys.
func TestSources(t *testing.T) {
	seed := uint32(3)
	next := func(n int) int {
		seed = seed*1664525 + 1013904223
		return int(seed>>8) % n
	}
	names := []string{"", "\x00", "\x00\x00", "a", "a\x00", "a\x01", "ab", "b", "\xff"}
	for range 300 {
		var all []string
		for range next(30) {
			all = append(all, codec.Inner(api.Entry{Key: names[next(len(names))], Rev: uint64(next(6)), Del: next(3) == 0}))
		}
		slices.Sort(all)
		all = slices.Compact(all)
		rows := make([]iter.Rows, 1+next(4))
		for _, k := range all {
			for range 1 + next(2) { // some keys stand in more than one source
				i := next(len(rows))
				rows[i] = append(rows[i], k)
			}
		}
		l := []iter.Source{nil}
		for _, r := range rows {
			l = append(l, iter.Rows(slices.Compact(r)), nil)
		}
		for rev := range uint64(7) {
			there, _ := drop.At(all, rev)
			for _, name := range names {
				x, ok, e := iter.Get(l, name, rev)
				i, _ := slices.BinarySearch(all, codec.Inner(api.Entry{Key: name, Rev: rev, Del: true}))
				want, found := api.Entry{}, false
				if i < len(all) {
					if y, _ := codec.Outer(all[i]); y.Key == name {
						want, found = y, true
					}
				}
				if x != want || ok != found || e != api.OK {
					t.Fatalf("%q: get of %q at %d: %v %t %d, want %v", all, name, rev, x, ok, e, want)
				}
			}
			from, to, most := names[next(len(names))], names[next(len(names))], next(5)-1
			var want []string
			for _, k := range there {
				if k >= from && (to == "" || k < to) && (most <= 0 || len(want) < most) {
					want = append(want, k)
				}
			}
			if got, e := iter.Scan(l, from, to, rev, most); e != api.OK || !slices.Equal(got, want) {
				t.Fatalf("%q: scan from %q to %q at %d, most %d: %q %d, want %q", all, from, to, rev, most, got, e, want)
			}
		}
	}
}

// P19.1: errors.
func TestErrors(t *testing.T) {
	good := row("a1 b1")
	down := fixed{e: api.ErrDown}
	none := fixed{key: "x", ok: true}
	for _, c := range []struct {
		l []iter.Source
		e api.Errno
	}{
		{[]iter.Source{down}, api.ErrDown},
		{[]iter.Source{good, nil, down}, api.ErrDown},
		{[]iter.Source{none}, api.ErrForm},
		{[]iter.Source{good, none}, api.ErrForm},
		{[]iter.Source{none, down}, api.ErrDown},
		{[]iter.Source{fixed{e: api.ErrSum}, down}, api.ErrSum},
	} {
		if x, ok, e := iter.Get(c.l, "a", 1); e != c.e || ok || x != (api.Entry{}) {
			t.Errorf("%v: %v %t %d", c.l, x, ok, e)
		}
		if keys, e := iter.Scan(c.l, "", "", 1, 0); e != c.e || len(keys) != 0 {
			t.Errorf("%v: %q %d", c.l, keys, e)
		}
	}
	for _, l := range [][]iter.Source{nil, {nil}, {fixed{key: "x"}}} {
		x, ok, e := iter.Get(l, "a", 1)
		keys, e2 := iter.Scan(l, "", "", 1, 0)
		if ok || x != (api.Entry{}) || len(keys) != 0 || e != api.OK || e2 != api.OK {
			t.Errorf("%v: %d %d", l, e, e2)
		}
	}
	// A source that always tells the same key: the scan ends.
	iter.Scan([]iter.Source{fixed{key: good[0], ok: true}}, "b", "", 1, 0)
	if keys, e := iter.Scan([]iter.Source{good, down}, "", "", 1, 1); e != api.ErrDown || len(keys) != 0 {
		t.Error(keys, e)
	}
}

// P19.1: what stands behind all versions of a key.
func TestPast(t *testing.T) {
	names := []string{"", "\x00", "\x00\x00", "\x00\x01", "\x00\xff", "\x01", "a", "a\x00", "a\x00\x00", "a\x01", "aa", "b", "\xff", "\xff\xff"}
	for _, a := range names {
		for _, b := range names {
			for _, rev := range []uint64{0, 1, math.MaxUint64} {
				for _, del := range []bool{true, false} {
					inner := codec.Inner(api.Entry{Key: b, Rev: rev, Del: del})
					if (inner > iter.Past(a)) != (b > a) {
						t.Fatalf("past %q, %q at %d", a, b, rev)
					}
				}
			}
		}
	}
}
