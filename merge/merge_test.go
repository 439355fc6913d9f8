package merge_test

import (
	"slices"
	"testing"

	"sentry/api"
	"sentry/merge"
)

// draws are rows of keys out of a row of numbers.
func draws(seed uint32, n, most int) [][]string {
	next := func(n int) int {
		seed = seed*1664525 + 1013904223
		return int(seed>>8) % n
	}
	var l [][]string
	for range n {
		var row []string
		for range next(most + 1) {
			row = append(row, string([]byte{byte('a' + next(20)), byte(next(4))})[:1+next(2)])
		}
		slices.Sort(row)
		l = append(l, slices.Compact(row))
	}
	return l
}

// P17.1, P17.2.
func TestMerge(t *testing.T) {
	for seed := range uint32(300) {
		rows := draws(seed, int(seed%7), 15)
		want := slices.Concat(rows...)
		slices.Sort(want)
		want = slices.Compact(want)
		all, e := merge.All(rows...)
		if e != api.OK || !slices.Equal(all, want) {
			t.Fatalf("%q: %q %d", rows, all, e)
		}
		m, e := merge.New(rows...)
		if e != api.OK {
			t.Fatal(e)
		}
		told := ""
		for i := 0; ; i++ {
			left := 0
			for _, row := range rows {
				if len(row) > 0 && (i == 0 || row[len(row)-1] > told) {
					left++
				}
			}
			if m.Left() != left {
				t.Fatalf("%q: behind %q %d rows are left, not %d", rows, told, m.Left(), left)
			}
			key, ok := m.Next()
			if ok != (i < len(want)) || ok && key != want[i] {
				t.Fatalf("%q: %q %t", rows, key, ok)
			}
			if !ok {
				break
			}
			told = key
		}
		if key, ok := m.Next(); key != "" || ok || m.Left() != 0 {
			t.Fatal("behind the last one")
		}
	}
}

func TestExamples(t *testing.T) {
	all, e := merge.All([]string{"a", "c"}, []string{"b", "c"})
	if e != api.OK || !slices.Equal(all, []string{"a", "b", "c"}) {
		t.Fatal(all, e)
	}
	for _, rows := range [][][]string{nil, {nil}, {{}, nil}} {
		if all, e := merge.All(rows...); e != api.OK || len(all) != 0 {
			t.Fatal(all, e)
		}
	}
	if all, e := merge.All([]string{""}, []string{"", "\x00"}); e != api.OK || !slices.Equal(all, []string{"", "\x00"}) {
		t.Fatal(all, e)
	}
}

// P17.1: rows that don't rise.
func TestOrder(t *testing.T) {
	for _, rows := range [][][]string{{{"a", "a"}}, {{"b", "a"}}, {{"a", "b"}, {"a", "c", "b"}}, {{"a", ""}}} {
		if m, e := merge.New(rows...); e != api.ErrOrder || m != nil {
			t.Errorf("%q: %d", rows, e)
		}
		if all, e := merge.All(rows...); e != api.ErrOrder || len(all) != 0 {
			t.Errorf("%q: %d", rows, e)
		}
	}
}

// P17.1: what is handed in is neither changed nor kept.
func TestApart(t *testing.T) {
	a, b := []string{"a", "c"}, []string{"b", "d"}
	m, _ := merge.New(a, b)
	a[1], b[0] = "x", "x"
	for _, want := range []string{"a", "b", "c", "d"} {
		if key, ok := m.Next(); key != want || !ok {
			t.Fatal(key, ok)
		}
	}
	if a[0] != "a" || b[1] != "d" {
		t.Fatal("what was handed in is changed")
	}
}

func TestNil(t *testing.T) {
	var m *merge.Merger
	if key, ok := m.Next(); key != "" || ok || m.Left() != 0 {
		t.Fatal("a nil merger has keys")
	}
}
