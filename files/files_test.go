package files_test

import (
	"reflect"
	"slices"
	"strconv"
	"strings"
	"testing"

	"sentry/api"
	"sentry/disk"
	"sentry/edit"
	"sentry/files"
	"sentry/frame"
)

func all(t *testing.T, l ...api.Errno) {
	t.Helper()
	for i, e := range l {
		if e != api.OK {
			t.Fatalf("act %d: %d", i, e)
		}
	}
}

// put lays a file, and makes it safe.
func put(t *testing.T, d *disk.Disk, name, s string) {
	t.Helper()
	all(t, d.Create(name), d.Append(name, []byte(s)), d.Sync(name), d.SyncDir())
}

func sample(next int) api.Version {
	return api.Version{
		Tables: []api.Table{{Num: 2, Size: 5, First: "a", Last: "b"}, {Num: 1, Level: 1, Size: 7, First: "a", Last: "z"}},
		Floor:  2, Head: 9, Log: 3, Next: next,
	}
}

func equal(a, b api.Version) bool {
	return slices.Equal(a.Tables, b.Tables) && a.Floor == b.Floor && a.Head == b.Head && a.Log == b.Log && a.Next == b.Next
}

func sealed(t *testing.T, x api.Edit) string {
	t.Helper()
	b, e := edit.Encode(x)
	if e != api.OK {
		t.Fatal(e)
	}
	return string(frame.Seal(b))
}

// P21.1: names.
func TestNames(t *testing.T) {
	for _, kind := range []byte("twm") {
		for _, n := range []int{1, 9, 10, 12, 999999999} {
			name := files.Name(kind, n)
			if name != string(kind)+"-"+strconv.Itoa(n) {
				t.Errorf("%q", name)
			}
			if k, m, ok := files.Number(name); k != kind || m != n || !ok {
				t.Errorf("%q: %c %d %t", name, k, m, ok)
			}
		}
		for _, n := range []int{0, -1, 1000000000} {
			if name := files.Name(kind, n); name != "" {
				t.Errorf("%q", name)
			}
		}
	}
	if files.Name('t', 12) != "t-12" || files.Name('x', 1) != "" || files.Name(0, 1) != "" {
		t.Error("names")
	}
	for _, name := range []string{"", "-", "t", "t-", "-1", "t-0", "t-01", "t--1", "t-+1", "t-1x", "x-1", "T-1", "tt-1", "t-1000000000", "t-99999999999999999999", "current", "current.new", "t1", "t-1-1", " t-1"} {
		if k, n, ok := files.Number(name); k != 0 || n != 0 || ok {
			t.Errorf("%q: %c %d", name, k, n)
		}
	}
}

// P21.1: what Load reads, and what it refuses.
func TestLoad(t *testing.T) {
	d := disk.New(10000)
	load := func(want api.Errno) {
		t.Helper()
		if v, n, e := files.Load(d); e != want || e != api.OK && (n != 0 || !reflect.DeepEqual(v, api.Version{})) {
			t.Fatalf("%v %d %d, want %d", v, n, e, want)
		}
	}
	load(api.ErrMissing)
	for _, name := range []string{"", "m", "m-0", "t-1", "w-1", "m-1\n", "current"} {
		d = disk.New(10000)
		put(t, d, "current", name)
		load(api.ErrForm)
	}
	d = disk.New(10000)
	put(t, d, "current", "m-7")
	load(api.ErrMissing)
	put(t, d, "m-7", "")
	load(api.ErrForm)
	all(t, d.Append("m-7", []byte("torn")))
	load(api.ErrForm)
	for text, want := range map[string]api.Errno{
		string(frame.Seal([]byte("x"))):                              api.ErrForm,
		string(frame.Seal(nil)):                                      api.ErrForm,
		sealed(t, api.Edit{Drop: []int{1}}):                          api.ErrForm,
		sealed(t, api.Edit{Floor: 1}):                                api.ErrForm,
		sealed(t, api.Edit{Head: 1}):                                 api.OK,
		sealed(t, api.Edit{Head: 1}) + sealed(t, api.Edit{Floor: 2}): api.ErrForm,
		sealed(t, api.Edit{Head: 1}) + string(frame.Seal(nil)):       api.ErrForm,
		sealed(t, api.Edit{Head: 1}) + "torn":                        api.OK,
	} {
		d = disk.New(10000)
		put(t, d, "current", "m-7")
		put(t, d, "m-7", text)
		load(want)
	}
	d = disk.New(10000)
	put(t, d, "current", "m-7")
	put(t, d, "m-7", sealed(t, api.Edit{Head: 1}))
	if v, _, e := files.Load(d); e != api.OK || !equal(v, api.Version{Head: 1, Next: 1}) {
		t.Fatal(v, e)
	}
	d = disk.New(10000)
	put(t, d, "current", "m-7")
	torn := sealed(t, api.Edit{Head: 90})
	put(t, d, "m-7", sealed(t, edit.Whole(sample(5)))+sealed(t, api.Edit{Drop: []int{2}, Floor: 3, Head: 10, Log: 5, Next: 6})+torn[:len(torn)-1])
	v, n, e := files.Load(d)
	want := api.Version{Tables: sample(5).Tables[1:], Floor: 3, Head: 10, Log: 5, Next: 6}
	if e != api.OK || n != 7 || !equal(v, want) {
		t.Fatal(v, n, e)
	}
	d.Fuse(0)
	d.SyncDir()
	load(api.ErrDown)
}

// P21.1: Start.
func TestStart(t *testing.T) {
	d := disk.New(10000)
	v, n, e := files.Start(d, sample(5))
	if e != api.OK || n != 5 || !equal(v, sample(6)) {
		t.Fatal(v, n, e)
	}
	if b, _ := d.Read("current"); string(b) != "m-5" {
		t.Fatalf("%q", b)
	}
	want := sealed(t, edit.Whole(sample(6)))
	if b, _ := d.Read("m-5"); string(b) != want {
		t.Fatalf("%q", b)
	}
	if l := d.List(); !slices.Equal(l, []string{"current", "m-5"}) {
		t.Fatal(l)
	}
	put(t, d, "current.new", "rest")
	v, n, e = files.Start(d, api.Version{Next: 9})
	if e != api.OK || n != 9 || !equal(v, api.Version{Next: 10}) {
		t.Fatal(v, n, e)
	}
	if l := d.List(); !slices.Equal(l, []string{"current", "m-5", "m-9"}) {
		t.Fatal(l)
	}
	bad := sample(5)
	bad.Floor = 99
	for what, c := range map[string]struct {
		v api.Version
		e api.Errno
	}{"may not be": {bad, api.ErrForm}, "nothing": {api.Version{}, api.ErrForm}, "no name": {api.Version{Next: 1000000000}, api.ErrForm}, "there already": {api.Version{Next: 9}, api.ErrExists}} {
		if w, n, e := files.Start(d, c.v); e != c.e || n != 0 || !reflect.DeepEqual(w, api.Version{}) {
			t.Errorf("%s: %d", what, e)
		}
	}
	small := disk.New(20)
	if w, n, e := files.Start(small, sample(5)); e != api.ErrSpace || n != 0 || !reflect.DeepEqual(w, api.Version{}) {
		t.Error(e)
	}
	if _, _, e := files.Start(nil, sample(5)); e != api.ErrDown {
		t.Error(e)
	}
}

// P21.2: at whatever act the disk goes down, whatever is kept.
func TestStartCrashes(t *testing.T) {
	for _, leftover := range []bool{false, true} {
		for _, ahead := range []bool{false, true} {
			for fuse := range 12 {
				for keep := range 10 {
					for bytes := range 4 {
						d := disk.New(10000)
						if ahead {
							_, _, e := files.Start(d, sample(5))
							all(t, e)
						}
						if leftover {
							put(t, d, "current.new", "m-5xx")
						}
						before, num, was := files.Load(d)
						d.Fuse(fuse)
						after, next, e := files.Start(d, sample(8))
						if e != api.OK && (e != api.ErrDown || fuse > 9) {
							t.Fatal(fuse, e)
						}
						d.Crash([]byte{byte(keep), byte(bytes), byte(bytes * 7), byte(bytes * 50), 255})
						v, n, now := files.Load(d)
						old := now == was && n == num && equal(v, before)
						fresh := now == api.OK && n == 8 && equal(v, sample(9))
						if e == api.OK && (!fresh || next != 8 || !equal(after, v)) || !old && !fresh {
							t.Fatalf("fuse %d, keep %d: %v %d %d", fuse, keep, v, n, now)
						}
					}
				}
			}
		}
	}
}

// P21.3: edits that were added.
func TestAdd(t *testing.T) {
	for fuse := range 9 {
		for keep := range 60 {
			d := disk.New(10000)
			v, num, e := files.Start(d, sample(5))
			all(t, e)
			d.Fuse(fuse)
			told := 0
			for i := range 4 {
				if e := files.Add(d, num, api.Edit{Head: uint64(10 + i)}); e == api.OK {
					told++
				} else if e != api.ErrDown {
					t.Fatal(e)
				}
			}
			if told != min(fuse/2, 4) {
				t.Fatal(fuse, told)
			}
			d.Crash([]byte{0, 0, byte(keep)})
			got, _, e := files.Load(d)
			if e != api.OK || !slices.Equal(got.Tables, v.Tables) {
				t.Fatal(e)
			}
			if least := uint64(9 + told); got.Head != least && got.Head != least+1 {
				t.Fatalf("fuse %d: head %d", fuse, got.Head)
			}
		}
	}
	d := disk.New(10000)
	for what, c := range map[string]struct {
		num int
		x   api.Edit
		e   api.Errno
	}{"no bytes": {5, api.Edit{Log: -1}, api.ErrArg}, "no name": {0, api.Edit{}, api.ErrArg}, "none": {5, api.Edit{}, api.ErrMissing}} {
		if e := files.Add(d, c.num, c.x); e != c.e {
			t.Errorf("%s: %d", what, e)
		}
	}
}

// P21.1: which files are wanted.
func TestClean(t *testing.T) {
	lay := func() *disk.Disk {
		d := disk.New(10000)
		for _, name := range strings.Fields("current current.new m-1 m-4 m-5 t-1 t-2 t-3 w-1 w-2 w-3 w-4 w-77 x t-01 w-0 m-x") {
			put(t, d, name, "x")
		}
		return d
	}
	extra := strings.Fields("current.new m-1 m-5 m-x t-01 t-3 w-0 w-1 w-2 x")
	d := lay()
	if got := files.Extra(d, sample(5), 4); !slices.Equal(got, extra) {
		t.Fatal(got)
	}
	all(t, files.Clean(d, sample(5), 4))
	d.Crash(nil)
	if got := d.List(); !slices.Equal(got, strings.Fields("current m-4 t-1 t-2 w-3 w-4 w-77")) {
		t.Fatal(got)
	}
	d.Fuse(0)
	all(t, files.Clean(d, sample(5), 4))
	d.Fuse(-1)
	put(t, d, "x", "x")
	all(t, files.Clean(d, sample(5), 4))
	d.Crash(nil)
	if got := d.List(); slices.Contains(got, "x") {
		t.Fatal("one file that was removed is back")
	}
	if got := files.Extra(d, api.Version{}, 0); !slices.Equal(got, strings.Fields("m-4 t-1 t-2")) {
		t.Fatal(got)
	}
	for fuse := range len(extra) + 1 {
		d := lay()
		d.Fuse(fuse)
		if e := files.Clean(d, sample(5), 4); e != api.ErrDown {
			t.Fatal(fuse, e)
		}
		d.Crash([]byte{255})
		all(t, files.Clean(d, sample(5), 4))
	}
	if got := files.Extra(nil, sample(5), 4); len(got) != 0 || files.Clean(nil, sample(5), 4) != api.OK {
		t.Fatal(got)
	}
}
