package edit_test

import (
	"math"
	"slices"
	"strings"
	"testing"

	"sentry/api"
	"sentry/edit"
)

func tab(num, level int, first, last string) api.Table {
	return api.Table{Num: num, Level: level, Size: 10 + num, First: first, Last: last}
}

// sample is a version that may be.
func sample() api.Version {
	return api.Version{
		Tables: []api.Table{tab(2, 0, "a", "z"), tab(5, 0, "a", "z"), tab(4, 1, "a", "c"), tab(1, 1, "d", "d"), tab(9, 3, "", "\xff"), tab(3, 3, "\xff\x00", "\xff\x01")},
		Floor:  4, Head: 9, Log: 8, Next: 10,
	}
}

func same(a, b api.Version) bool {
	return slices.Equal(a.Tables, b.Tables) && a.Floor == b.Floor && a.Head == b.Head && a.Log == b.Log && a.Next == b.Next
}

func sameEdit(a, b api.Edit) bool {
	return slices.Equal(a.Add, b.Add) && slices.Equal(a.Drop, b.Drop) && a.Floor == b.Floor && a.Head == b.Head && a.Log == b.Log && a.Next == b.Next
}

// P16.1: which versions may be.
func TestCheck(t *testing.T) {
	const huge = 1 << 62
	good := []api.Version{sample(), {Next: 1}, {Next: 1, Log: 1}, {Next: huge - 1, Log: huge - 1, Floor: math.MaxUint64, Head: math.MaxUint64}}
	for _, v := range good {
		if e := edit.Check(v); e != api.OK {
			t.Errorf("%v: %d", v, e)
		}
	}
	for i, change := range []func(v *api.Version){
		func(v *api.Version) { v.Floor = 10 },
		func(v *api.Version) { v.Next = 0; v.Log = 0; v.Tables = nil },
		func(v *api.Version) { v.Next = huge },
		func(v *api.Version) { v.Next = -1 },
		func(v *api.Version) { v.Next = 9 },
		func(v *api.Version) { v.Log = 11 },
		func(v *api.Version) { v.Log = -1 },
		func(v *api.Version) { v.Tables[0].Num = 0 },
		func(v *api.Version) { v.Tables[0].Num = -2 },
		func(v *api.Version) { v.Tables[4].Num = 10 },
		func(v *api.Version) { v.Tables[4].Num = 2 },
		func(v *api.Version) { v.Tables[5].Level = 4 },
		func(v *api.Version) { v.Tables[0].Level = -1 },
		func(v *api.Version) { v.Tables[3].Size = 0 },
		func(v *api.Version) { v.Tables[3].Size = huge },
		func(v *api.Version) { v.Tables[3].Last = "c" },
		func(v *api.Version) { v.Tables[0].First = "zz" },
		func(v *api.Version) { v.Tables[2].Last = "d" },
		func(v *api.Version) { v.Tables[4].Last = "\xff\x00" },
		func(v *api.Version) { v.Tables[0], v.Tables[1] = v.Tables[1], v.Tables[0] },
		func(v *api.Version) { v.Tables[2], v.Tables[3] = v.Tables[3], v.Tables[2] },
		func(v *api.Version) { v.Tables[1], v.Tables[2] = v.Tables[2], v.Tables[1] },
	} {
		v := sample()
		change(&v)
		if e := edit.Check(v); e != api.ErrForm {
			t.Errorf("change %d: %d", i, e)
		}
		if w, e := edit.Apply(v, api.Edit{}); e != api.ErrForm || !same(w, api.Version{}) {
			t.Errorf("change %d: apply: %d", i, e)
		}
	}
	v := sample()
	v.Tables[0].Last, v.Tables[3].Size, v.Tables[1].Size = "a", huge-1, 1
	if e := edit.Check(v); e != api.OK {
		t.Error(e)
	}
}

func edits() []api.Edit {
	return []api.Edit{
		{},
		{Floor: 1, Head: 2, Log: 3, Next: 4},
		{Add: []api.Table{tab(300, 1, "a", "bc"), {}}, Drop: []int{7, 0, 1<<62 - 1}, Floor: math.MaxUint64, Head: 1 << 62, Log: 1<<62 - 1, Next: 1<<62 - 1},
		{Drop: []int{1, 1}},
		{Add: []api.Table{tab(1, 99, "z", "a")}},
	}
}

// P16.1, P16.2: bytes.
func TestEncode(t *testing.T) {
	b, e := edit.Encode(edits()[0])
	if e != api.OK || string(b) != "\x00\x00\x00\x00\x00\x00" {
		t.Fatalf("%q %d", b, e)
	}
	b, e = edit.Encode(api.Edit{Add: []api.Table{{Num: 300, Level: 1, Size: 9, First: "a", Last: "bc"}}, Drop: []int{7, 5}, Floor: 1, Head: 2, Log: 3, Next: 4})
	if e != api.OK || string(b) != "\x01\xac\x02\x01\x09\x01a\x02bc\x02\x07\x05\x01\x02\x03\x04" {
		t.Fatalf("%q %d", b, e)
	}
	for _, x := range edits() {
		b, e := edit.Encode(x)
		if e != api.OK {
			t.Fatal(x, e)
		}
		back, e := edit.Decode(b)
		if e != api.OK || !sameEdit(back, x) {
			t.Errorf("%v: %v %d", x, back, e)
		}
		for i := range b {
			if back, e := edit.Decode(b[:i]); e != api.ErrShort || !sameEdit(back, api.Edit{}) {
				t.Errorf("%q cut at %d: %d", b, i, e)
			}
		}
		if back, e := edit.Decode(append(b, 0)); e != api.ErrForm || !sameEdit(back, api.Edit{}) {
			t.Error(e)
		}
	}
	for _, n := range []int{-1, 1 << 62, math.MinInt, math.MaxInt} {
		for i, x := range []api.Edit{{Log: n}, {Next: n}, {Drop: []int{1, n}}, {Add: []api.Table{{}, {Num: n}}}, {Add: []api.Table{{Level: n}}}, {Add: []api.Table{{Size: n}}}} {
			if b, e := edit.Encode(x); e != api.ErrArg || len(b) != 0 {
				t.Errorf("%d, %d: %d", n, i, e)
			}
			if w, e := edit.Apply(sample(), x); e != api.ErrArg || !same(w, api.Version{}) {
				t.Errorf("%d, %d: apply: %d", n, i, e)
			}
		}
	}
}

// P16.1: the first thing that is wrong is told.
func TestDecode(t *testing.T) {
	huge := "\x80\x80\x80\x80\x80\x80\x80\x80\x40" // 2^62
	for s, want := range map[string]api.Errno{
		"":                                    api.ErrShort,
		"\x80\x00":                            api.ErrForm,
		"\x00\x00\x80\x00":                    api.ErrForm,
		"\x01" + huge:                         api.ErrForm,
		"\x01\x01" + huge:                     api.ErrForm,
		"\x01\x01\x00" + huge:                 api.ErrForm,
		"\x01\x01\x00\x01" + huge:             api.ErrShort,
		"\x01\x01\x00\x01\x01a\x05b":          api.ErrShort,
		"\x00\x01" + huge:                     api.ErrForm,
		"\x00" + huge:                         api.ErrShort,
		huge:                                  api.ErrShort,
		huge + "\x00" + huge:                  api.ErrForm,
		"\x00\x00" + huge + huge + "\x00\x00": api.OK,
		"\x00\x00\x00\x00" + huge + "\x00":    api.ErrForm,
		"\x00\x00\x00\x00\x00" + huge:         api.ErrForm,
		"\x00\x00\x00\x00" + huge:             api.ErrForm,
		"\x00\x00\x00\x00\x00":                api.ErrShort,
		strings.Repeat("\xff", 10):            api.ErrForm,
	} {
		if x, e := edit.Decode([]byte(s)); e != want || e != api.OK && !sameEdit(x, api.Edit{}) {
			t.Errorf("%q: %d, want %d", s, e, want)
		}
	}
}

// P16.1: what a version becomes.
func TestApply(t *testing.T) {
	v := sample()
	got, e := edit.Apply(v, api.Edit{
		Add:   []api.Table{tab(12, 1, "cc", "cd"), tab(11, 0, "m", "n"), tab(2, 2, "x", "y"), tab(10, 1, "A", "B")},
		Drop:  []int{2, 9},
		Floor: 3, Head: 20, Log: 8, Next: 13,
	})
	want := api.Version{
		Tables: []api.Table{tab(5, 0, "a", "z"), tab(11, 0, "m", "n"), tab(10, 1, "A", "B"), tab(4, 1, "a", "c"), tab(12, 1, "cc", "cd"), tab(1, 1, "d", "d"), tab(2, 2, "x", "y"), tab(3, 3, "\xff\x00", "\xff\x01")},
		Floor:  4, Head: 20, Log: 8, Next: 13,
	}
	if e != api.OK || !same(got, want) {
		t.Fatalf("%v %d", got, e)
	}
	got.Tables[0].First = "changed"
	if !same(v, sample()) {
		t.Fatal("what was handed in is changed")
	}
	if got, e := edit.Apply(v, api.Edit{}); e != api.OK || !same(got, v) {
		t.Fatal(got, e)
	}
	if got, e := edit.Apply(v, api.Edit{Drop: []int{1, 2, 3, 4, 5, 9}, Floor: 9, Log: 10}); e != api.OK || !same(got, api.Version{Floor: 9, Head: 9, Log: 10, Next: 10}) {
		t.Fatal(got, e)
	}
	for i, c := range []struct {
		x api.Edit
		e api.Errno
	}{
		{api.Edit{Drop: []int{6}}, api.ErrMissing},
		{api.Edit{Drop: []int{2, 2}}, api.ErrMissing},
		{api.Edit{Drop: []int{0}}, api.ErrMissing},
		{api.Edit{Add: []api.Table{tab(6, 0, "a", "b")}, Drop: []int{6}}, api.ErrMissing},
		{api.Edit{Add: []api.Table{tab(2, 0, "a", "b")}, Drop: []int{6}}, api.ErrMissing},
		{api.Edit{Add: []api.Table{tab(2, 0, "a", "b")}}, api.ErrExists},
		{api.Edit{Add: []api.Table{tab(6, 0, "a", "b"), tab(6, 2, "a", "b")}}, api.ErrExists},
		{api.Edit{Add: []api.Table{tab(6, 9, "b", "a"), tab(6, 2, "a", "b")}}, api.ErrExists},
		{api.Edit{Add: []api.Table{tab(10, 0, "a", "b")}}, api.ErrOrder},
		{api.Edit{Add: []api.Table{tab(6, 0, "b", "a")}}, api.ErrOrder},
		{api.Edit{Add: []api.Table{tab(6, 4, "a", "b")}}, api.ErrOrder},
		{api.Edit{Add: []api.Table{tab(6, 1, "c", "c")}}, api.ErrOrder},
		{api.Edit{Add: []api.Table{tab(6, 1, "a", "a")}}, api.ErrOrder},
		{api.Edit{Add: []api.Table{tab(6, 1, "0", "zz")}}, api.ErrOrder},
		{api.Edit{Add: []api.Table{{Num: 6, First: "a", Last: "b"}}}, api.ErrOrder},
		{api.Edit{Add: []api.Table{tab(0, 0, "a", "b")}}, api.ErrOrder},
		{api.Edit{Floor: 10}, api.ErrOrder},
		{api.Edit{Log: 11}, api.ErrOrder},
		{api.Edit{Add: []api.Table{{Num: -1}}, Drop: []int{6}}, api.ErrArg},
	} {
		if w, e := edit.Apply(sample(), c.x); e != c.e || !same(w, api.Version{}) {
			t.Errorf("%d: %d, want %d", i, e, c.e)
		}
	}
}

// P16.3.
func TestWhole(t *testing.T) {
	empty := api.Version{Next: 1}
	for _, v := range []api.Version{sample(), empty, {Floor: 3, Head: 3, Next: 7, Log: 7}} {
		x := edit.Whole(v)
		if !slices.Equal(x.Add, v.Tables) || len(x.Drop) != 0 {
			t.Fatal(x)
		}
		if got, e := edit.Apply(empty, x); e != api.OK || !same(got, v) {
			t.Errorf("%v: %v %d", v, got, e)
		}
	}
	odd := api.Version{Tables: []api.Table{tab(9, 9, "b", "a"), tab(1, -1, "", "")}, Floor: 5, Head: 1, Log: -3, Next: -9}
	if x := edit.Whole(odd); !sameEdit(x, api.Edit{Add: odd.Tables, Floor: 5, Head: 1, Log: -3, Next: -9}) {
		t.Error(x)
	}
	v := sample()
	edit.Whole(v).Add[0].Num = 77
	if !same(v, sample()) {
		t.Error("the answer shares memory")
	}
}
