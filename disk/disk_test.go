package disk_test

import (
	"slices"
	"strconv"
	"strings"
	"testing"

	"sentry/api"
	"sentry/disk"
)

func want(t *testing.T, what string, got, e api.Errno) {
	t.Helper()
	if got != e {
		t.Fatalf("%s: got %d, want %d", what, got, e)
	}
}

func all(t *testing.T, l ...api.Errno) {
	t.Helper()
	for i, e := range l {
		if e != api.OK {
			t.Fatalf("act %d: %d", i, e)
		}
	}
}

func text(t *testing.T, d *disk.Disk, name, s string) {
	t.Helper()
	b, e := d.Read(name)
	if e != api.OK || string(b) != s {
		t.Fatalf("%s: %q %d, want %q", name, b, e, s)
	}
}

func names(t *testing.T, d *disk.Disk, l ...string) {
	t.Helper()
	if got := d.List(); !slices.Equal(got, l) {
		t.Fatalf("names %q, want %q", got, l)
	}
}

// P1.1: names.
func TestNames(t *testing.T) {
	for _, s := range []string{"a", "z", "0", "9", ".", "-", "t-1.x", strings.Repeat("a", api.MaxName)} {
		d := disk.New(10)
		want(t, s, d.Create(s), api.OK)
	}
	for _, s := range []string{"", "A", "_", "a b", "a/b", "`", "{", ":", ",", "é", "a\x00", strings.Repeat("a", api.MaxName+1)} {
		d := disk.New(10)
		all(t, d.Create("a"))
		_, e := d.Read(s)
		for i, e := range []api.Errno{d.Create(s), d.Append(s, nil), e, d.Sync(s), d.Rename(s, "a"), d.Rename("a", s), d.Remove(s)} {
			if e != api.ErrName {
				t.Fatalf("%q, call %d: %d", s, i, e)
			}
		}
		names(t, d, "a")
	}
}

// P1.1: errors of each call, in the order in which the chapter names them.
func TestErrors(t *testing.T) {
	d := disk.New(5)
	_, e := d.Read("x")
	for i, e := range []api.Errno{d.Append("x", make([]byte, 9)), e, d.Sync("x"), d.Rename("x", "y"), d.Rename("x", "x"), d.Remove("x")} {
		if e != api.ErrMissing {
			t.Fatalf("call %d: %d", i, e)
		}
	}
	all(t, d.Create("x"))
	want(t, "again", d.Create("x"), api.ErrExists)
	want(t, "six", d.Append("x", make([]byte, 6)), api.ErrSpace)
	all(t, d.Append("x", make([]byte, 5)))
	want(t, "one more", d.Append("x", []byte{1}), api.ErrSpace)
	all(t, d.Append("x", nil), d.Remove("x"))
	if d.Used() != 0 {
		t.Fatal(d.Used())
	}
	all(t, d.Create("y"), d.Append("y", make([]byte, 5)))
	want(t, "rename, name first", d.Rename("none", "B"), api.ErrName)
}

func TestFiles(t *testing.T) {
	d := disk.New(1)
	for i := range api.MaxFiles {
		all(t, d.Create("f"+strconv.Itoa(i)))
	}
	want(t, "one more", d.Create("g"), api.ErrLong)
	want(t, "there already", d.Create("f0"), api.ErrExists)
	all(t, d.Remove("f0"), d.Create("g"))
}

func TestCap(t *testing.T) {
	d := disk.New(-3)
	all(t, d.Create("a"), d.Append("a", nil))
	want(t, "below 0", d.Append("a", []byte{1}), api.ErrSpace)
	d = disk.New(api.MaxBytes + 1)
	all(t, d.Create("a"), d.Append("a", make([]byte, api.MaxBytes)))
	want(t, "beyond the most", d.Append("a", []byte{1}), api.ErrSpace)
}

// P1.1: renaming, removing, and what is handed in and out.
func TestDirectory(t *testing.T) {
	d := disk.New(100)
	in := []byte("one")
	all(t, d.Create("b"), d.Append("b", in), d.Create("a"), d.Append("a", []byte("two!")))
	in[0] = 'X'
	text(t, d, "b", "one")
	out, _ := d.Read("b")
	out[0] = 'X'
	text(t, d, "b", "one")
	names(t, d, "a", "b")
	all(t, d.Rename("b", "a"))
	names(t, d, "a")
	text(t, d, "a", "one")
	if d.Used() != 3 {
		t.Fatal(d.Used())
	}
	all(t, d.Rename("a", "a"))
	text(t, d, "a", "one")
	all(t, d.Append("a", []byte("s")))
	text(t, d, "a", "ones")
	all(t, d.Remove("a"))
	names(t, d)
	_, e := d.Read("a")
	want(t, "gone", e, api.ErrMissing)
}

// P1.1: the fuse.
func TestFuse(t *testing.T) {
	acts := []func(d *disk.Disk) api.Errno{
		func(d *disk.Disk) api.Errno { return d.Create("n") },
		func(d *disk.Disk) api.Errno { return d.Append("a", []byte("x")) },
		func(d *disk.Disk) api.Errno { return d.Sync("a") },
		func(d *disk.Disk) api.Errno { return d.SyncDir() },
		func(d *disk.Disk) api.Errno { return d.Rename("a", "b") },
		func(d *disk.Disk) api.Errno { return d.Rename("a", "a") },
		func(d *disk.Disk) api.Errno { return d.Remove("a") },
	}
	for i, f := range acts {
		d := disk.New(10)
		all(t, d.Create("a"), d.Append("a", []byte("abc")), d.Sync("a"), d.SyncDir())
		d.Fuse(0)
		want(t, "fails without the fuse", d.Create("a"), api.ErrExists)
		want(t, "fails without the fuse", d.Append("q", nil), api.ErrMissing)
		text(t, d, "a", "abc")
		want(t, strconv.Itoa(i), f(d), api.ErrDown)
		_, e := d.Read("a")
		for _, e := range []api.Errno{e, d.Create("A"), d.Append("a", nil), d.Sync("a"), d.SyncDir(), d.Rename("a", "b"), d.Remove("a")} {
			want(t, "down", e, api.ErrDown)
		}
		if d.Used() != 0 || len(d.List()) != 0 {
			t.Fatal("down, but tells files")
		}
		d.Crash([]byte{255, 255, 255})
		names(t, d, "a")
		text(t, d, "a", "abc")
		all(t, d.Create("c"), d.Create("d"), d.Create("e"))

		d.Fuse(1)
		want(t, "the last act", f(d), api.OK)
		want(t, "one too many", d.SyncDir(), api.ErrDown)
	}
	d := disk.New(10)
	d.Fuse(2)
	all(t, d.Create("a"))
	want(t, "counts for nothing", d.Create("a"), api.ErrExists)
	all(t, d.Create("b"))
	want(t, "burnt", d.Create("c"), api.ErrDown)
	d = disk.New(10)
	d.Fuse(0)
	d.Fuse(-1)
	all(t, d.Create("a"))
}

// P1.1, P1.2: crashes; the chapter's example.
func TestCrash(t *testing.T) {
	d := disk.New(10)
	all(t, d.Create("a"), d.Append("a", []byte("xyz")))
	d.Crash(nil)
	names(t, d)
	all(t, d.Create("a"), d.SyncDir(), d.Append("a", []byte("xyz")))
	d.Crash(nil)
	text(t, d, "a", "")
	all(t, d.Append("a", []byte("xyz")), d.Sync("a"))
	d.Crash(nil)
	text(t, d, "a", "xyz")
	all(t, d.Append("a", []byte("w")))
	d.Crash(nil)
	text(t, d, "a", "xyz")
}

// P1.2: which acts and bytes stay is told by keep, modulo their number and 1, name by name.
func TestKeep(t *testing.T) {
	lay := func() *disk.Disk {
		d := disk.New(100)
		all(t, d.Create("b"), d.Append("b", []byte("safe")), d.Sync("b"), d.SyncDir(), d.Append("b", []byte("loose")))
		all(t, d.Create("a"), d.Append("a", []byte("12")), d.Rename("b", "c"), d.Remove("c"))
		return d
	}
	cases := []struct {
		keep  string
		files string
	}{
		{"", "b=safe"},
		{"\x00\x03", "b=safeloo"},
		{"\x04\x05", "b=safeloose"},
		{"\x01\x01\x02", "a=1 b=safelo"},
		{"\x05\x05\x06", "a=12 b=safe"},
		{"\x02\x00\x01", "a= c=safel"},
		{"\x03\x02", "a=12"},
		{"\x07\x04", "a=1"},
	}
	for _, c := range cases {
		d := lay()
		d.Crash([]byte(c.keep))
		var l []string
		for _, n := range d.List() {
			b, _ := d.Read(n)
			l = append(l, n+"="+string(b))
		}
		if got := strings.Join(l, " "); got != c.files {
			t.Fatalf("%q: %s, want %s", c.keep, got, c.files)
		}
		before := d.List()
		d.Crash(nil)
		if !slices.Equal(before, d.List()) {
			t.Fatal("behind a crash all is safe")
		}
	}
}

// A rename of a name to itself is an act of the directory, too.
func TestKeepSame(t *testing.T) {
	d := disk.New(10)
	all(t, d.Create("a"), d.SyncDir(), d.Rename("a", "a"), d.Create("b"))
	d.Crash([]byte{1})
	names(t, d, "a")
	all(t, d.Rename("a", "a"), d.Create("b"))
	d.Crash([]byte{5})
	names(t, d, "a", "b")
}

// P1.2: a file whose removal wasn't safe comes back with its safe bytes, though another has its name by now.
func TestComesBack(t *testing.T) {
	d := disk.New(10)
	all(t, d.Create("a"), d.Append("a", []byte("old")), d.Sync("a"), d.SyncDir())
	all(t, d.Remove("a"), d.Create("a"), d.Append("a", []byte("new")), d.Sync("a"))
	d.Crash(nil)
	text(t, d, "a", "old")
	all(t, d.Create("b"), d.Append("b", []byte("more")), d.Sync("b"), d.Rename("b", "a"), d.SyncDir())
	d.Crash(nil)
	names(t, d, "a")
	text(t, d, "a", "more")
}

// P1.3.
func TestNil(t *testing.T) {
	var d *disk.Disk
	d.Fuse(3)
	d.Crash([]byte{1})
	_, e := d.Read("a")
	for i, e := range []api.Errno{e, d.Create("a"), d.Create(""), d.Append("a", nil), d.Sync("a"), d.SyncDir(), d.Rename("a", "b"), d.Remove("a")} {
		want(t, strconv.Itoa(i), e, api.ErrDown)
	}
	if d.Used() != 0 || len(d.List()) != 0 {
		t.Fatal("a nil disk tells files")
	}
}
