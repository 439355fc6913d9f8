package drop_test

import (
	"math"
	"slices"
	"strconv"
	"strings"
	"testing"

	"sentry/api"
	"sentry/codec"
	"sentry/drop"
)

// row reads "a5 a3- b1" as inner keys: a at 5, a taken away at 3, b at 1.
func row(text string) []string {
	var l []string
	for _, w := range strings.Fields(text) {
		del := strings.HasSuffix(w, "-")
		rev, _ := strconv.Atoi(strings.Trim(w[1:], "-"))
		l = append(l, codec.Inner(api.Entry{Key: w[:1], Rev: uint64(rev), Del: del}))
	}
	return l
}

// P18.1: what is needed.
func TestKeep(t *testing.T) {
	cases := []struct {
		keys   string
		floor  uint64
		bottom bool
		want   string
	}{
		{"a5 a3 a1", 3, false, "a5 a3"},
		{"a5 a3 a1", 3, true, "a5 a3"},
		{"a5 a3 a1", 0, true, "a5 a3 a1"},
		{"a5 a3 a1", 4, true, "a5 a3"},
		{"a5 a3 a1", 5, true, "a5"},
		{"a5 a3 a1", 9, true, "a5"},
		{"a5 a3- a1", 3, true, "a5"},
		{"a5 a3- a1", 3, false, "a5 a3-"},
		{"a5 a3- a1", 2, true, "a5 a3- a1"},
		{"a5- a3 a1", 4, true, "a5- a3"},
		{"a5- a3 a1", 5, true, ""},
		{"a5- a3 a1", 5, false, "a5-"},
		{"a3- a3 a2", 3, true, ""},
		{"a3- a3 a2", 3, false, "a3-"},
		{"a2 b9 b4 b2 c1- d3 e9-", 3, true, "a2 b9 b4 b2 d3 e9-"},
		{"a2 b9 b4 b2 c1- d3 e9-", 3, false, "a2 b9 b4 b2 c1- d3 e9-"},
		{"a2 a1 b2- b1 c2 c1", 2, true, "a2 c2"},
		{"", 3, true, ""},
	}
	for _, c := range cases {
		got, e := drop.Keep(row(c.keys), c.floor, c.bottom)
		if e != api.OK || !slices.Equal(got, row(c.want)) {
			t.Errorf("%s, floor %d, %t: %q %d", c.keys, c.floor, c.bottom, got, e)
		}
	}
	odd := []string{codec.Inner(api.Entry{Rev: 2}), codec.Inner(api.Entry{Rev: 1}), codec.Inner(api.Entry{Key: "\x00", Rev: 1})}
	if got, e := drop.Keep(odd, 2, true); e != api.OK || !slices.Equal(got, []string{odd[0], odd[2]}) {
		t.Errorf("%q %d", got, e)
	}
	greatest := []string{codec.Inner(api.Entry{Key: "a", Rev: math.MaxUint64}), codec.Inner(api.Entry{Key: "a", Rev: 1})}
	if got, e := drop.Keep(greatest, math.MaxUint64, true); e != api.OK || len(got) != 1 {
		t.Errorf("%q %d", got, e)
	}
}

func TestAt(t *testing.T) {
	l := row("a5 a3- a1 b4- b2 c9 d0 e2- e2")
	for rev, want := range map[uint64]string{0: "d", 1: "a d", 2: "a b d", 3: "b d", 4: "d", 5: "a d", 8: "a d", 9: "a c d", math.MaxUint64: "a c d"} {
		got, e := drop.At(l, rev)
		if e != api.OK || !slices.Equal(got, strings.Fields(want)) {
			t.Errorf("at %d: %q %d", rev, got, e)
		}
	}
	if got, e := drop.At([]string{codec.Inner(api.Entry{Rev: 1})}, 1); e != api.OK || len(got) != 1 || got[0] != "" {
		t.Error("the empty Key:", got, e)
	}
}

func TestNewest(t *testing.T) {
	for keys, want := range map[string]uint64{"": 0, "a5 a3 b4": 5, "a1 b9- c2": 9, "a0": 0} {
		if rev, e := drop.Newest(row(keys)); rev != want || e != api.OK {
			t.Errorf("%q: %d %d", keys, rev, e)
		}
	}
}

// P18.1: rows that may not be; a wrong form is named first.
func TestErrors(t *testing.T) {
	good := row("a5 b3")
	for _, c := range []struct {
		keys []string
		e    api.Errno
	}{
		{[]string{"x"}, api.ErrForm},
		{append(slices.Clone(good), ""), api.ErrForm},
		{[]string{good[1], good[0], "x"}, api.ErrForm},
		{[]string{good[1], good[0]}, api.ErrOrder},
		{[]string{good[0], good[0]}, api.ErrOrder},
		{row("a3 a5"), api.ErrOrder},
		{row("a3 a3-"), api.ErrOrder},
	} {
		l, e1 := drop.Keep(c.keys, 3, true)
		m, e2 := drop.At(c.keys, 3)
		rev, e3 := drop.Newest(c.keys)
		if e1 != c.e || e2 != c.e || e3 != c.e || len(l)+len(m) != 0 || rev != 0 {
			t.Errorf("%q: %d %d %d", c.keys, e1, e2, e3)
		}
	}
}

// P18.2: from the floor on all is told as before.
func TestSame(t *testing.T) {
	seed := uint32(1)
	next := func(n int) int {
		seed = seed*1664525 + 1013904223
		return int(seed>>8) % n
	}
	for range 400 {
		var keys []string
		for range next(25) {
			keys = append(keys, codec.Inner(api.Entry{Key: string(rune('a' + next(4))), Rev: uint64(next(12)), Del: next(3) == 0}))
		}
		slices.Sort(keys)
		keys = slices.Compact(keys)
		floor := uint64(next(13))
		for _, bottom := range []bool{true, false} {
			kept, e := drop.Keep(keys, floor, bottom)
			if e != api.OK || len(kept) > len(keys) {
				t.Fatal(e)
			}
			for rev := floor; rev < 14; rev++ {
				want, _ := drop.At(keys, rev)
				got, e := drop.At(kept, rev)
				if e != api.OK || !slices.Equal(got, want) {
					t.Fatalf("%q, floor %d, at %d: %q, want %q", keys, floor, rev, got, want)
				}
			}
			again, _ := drop.Keep(kept, floor, bottom)
			if !slices.Equal(again, kept) {
				t.Fatalf("%q: kept twice", keys)
			}
		}
	}
}
