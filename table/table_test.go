package table_test

import (
	"bytes"
	"slices"
	"strconv"
	"strings"
	"testing"

	"sentry/api"
	"sentry/block"
	"sentry/bloom"
	"sentry/codec"
	"sentry/frame"
	"sentry/table"
)

func inner(key string, rev uint64, del bool) string {
	return codec.Inner(api.Entry{Key: key, Rev: rev, Del: del})
}

// keys are n inner keys that rise; some Keys have more than one revision.
func keys(n int) []string {
	var l []string
	for i := range n {
		k := "key " + strconv.Itoa(i/3*7) + strings.Repeat("x", i/3%5)
		l = append(l, inner(k, uint64(i), i%4 == 0))
	}
	slices.Sort(l)
	return l
}

func build(t *testing.T, keys []string, split, bits int) []byte {
	t.Helper()
	b, e := table.Build(keys, split, bits)
	if e != api.OK {
		t.Fatal(e)
	}
	return b
}

func open(t *testing.T, b []byte) *table.Table {
	t.Helper()
	x, e := table.Open(b)
	if e != api.OK {
		t.Fatal(e)
	}
	return x
}

func eight(n int) string {
	return "\x00\x00\x00\x00\x00\x00" + string([]byte{byte(n >> 8), byte(n)})
}

// lay puts a table together, part by part, as the chapter tells it.
func lay(rows [][]string, bits int) []byte {
	var b, index []byte
	var stems []string
	n := 0
	index = codec.Put(nil, uint64(len(rows)))
	for _, row := range rows {
		data, _ := block.Build(row)
		f := frame.Seal(data)
		index = codec.PutText(index, row[0])
		index = codec.Put(index, uint64(len(b)))
		index = codec.Put(index, uint64(len(f)))
		b = append(b, f...)
		for _, k := range row {
			stems = append(stems, k[:len(k)-9])
		}
		n += len(row)
	}
	at := len(b)
	b = append(b, frame.Seal(index)...)
	filter := len(b)
	b = append(b, frame.Seal(bloom.Make(slices.Compact(stems), bits))...)
	return append(b, eight(at)+eight(filter)+eight(n)+"tbl1"...)
}

// P14.1: tables byte by byte.
func TestBuild(t *testing.T) {
	l := keys(40)
	size := len(l[0])
	rowsBy := func(split int) [][]string {
		var rows [][]string
		var row []string
		sum := 0
		for _, k := range l {
			row = append(row, k)
			sum += len(k)
			if sum >= split {
				rows, row, sum = append(rows, row), nil, 0
			}
		}
		if row != nil {
			rows = append(rows, row)
		}
		return rows
	}
	for _, split := range []int{1, size - 1, size, size + 1, 2 * size, 100, 200, 100000} {
		for _, bits := range []int{-1, 1, 10, 99} {
			if got := build(t, l, split, bits); !bytes.Equal(got, lay(rowsBy(split), bits)) {
				t.Fatalf("split %d, bits %d: %q", split, bits, got)
			}
		}
	}
	if x := open(t, build(t, l[:1], 100, 10)); x.Blocks() != 1 || x.Len() != 1 {
		t.Fatal(x.Blocks())
	}
}

// P14.1: what no table is made of; errors in their order.
func TestBuildErrors(t *testing.T) {
	l := keys(5)
	for _, c := range []struct {
		keys  []string
		split int
		e     api.Errno
	}{
		{nil, 10, api.ErrArg},
		{l, 0, api.ErrArg},
		{l, -1, api.ErrArg},
		{[]string{"x"}, 0, api.ErrArg},
		{[]string{"x"}, 1, api.ErrForm},
		{append(slices.Clone(l), "x"), 1, api.ErrForm},
		{[]string{l[1], l[0], ""}, 1, api.ErrForm},
		{[]string{l[1], l[0]}, 1, api.ErrOrder},
		{[]string{l[0], l[1], l[1]}, 1, api.ErrOrder},
	} {
		if b, e := table.Build(c.keys, c.split, 10); e != c.e || len(b) != 0 {
			t.Errorf("%q, %d: %d, want %d", c.keys, c.split, e, c.e)
		}
	}
}

// P14.2: what is built tells its keys, and which isn't less than any text.
func TestThereAndBack(t *testing.T) {
	for _, n := range []int{1, 2, 17, 200} {
		l := keys(n)
		for _, split := range []int{1, 60, 500, 1 << 20} {
			b := build(t, l, split, 10)
			x := open(t, b)
			for i := range b {
				b[i] = 0 // what was handed in isn't kept
			}
			all, e := x.All()
			if e != api.OK || !slices.Equal(all, l) || x.Len() != n {
				t.Fatalf("%d keys, split %d: %q %d", n, split, all, e)
			}
			var blocks []string
			for i := range x.Blocks() {
				row, e := x.Block(i)
				if e != api.OK || len(row) == 0 {
					t.Fatal(i, e)
				}
				blocks = append(blocks, row...)
			}
			if !slices.Equal(blocks, l) {
				t.Fatal("blocks")
			}
			for _, i := range []int{-1, x.Blocks()} {
				if row, e := x.Block(i); e != api.ErrArg || len(row) != 0 {
					t.Fatal(i, e)
				}
			}
			ask := []string{"", "a", "key", "key 7", "zzz", "\xff"}
			for _, k := range l {
				ask = append(ask, k, k+"\x00", k[:len(k)-1], table.Stem(k))
				if !x.May(table.Stem(k)) {
					t.Fatalf("%q may not be there", k)
				}
			}
			for _, k := range ask {
				i, _ := slices.BinarySearch(l, k)
				want, ok := "", i < len(l)
				if ok {
					want = l[i]
				}
				if got, found, e := x.Seek(k); got != want || found != ok || e != api.OK {
					t.Fatalf("seek of %q: %q %t %d", k, got, found, e)
				}
			}
		}
	}
	x := open(t, build(t, keys(60), 100, 20))
	others := 0
	for i := range 100 {
		if x.May("other " + strconv.Itoa(i)) {
			others++
		}
	}
	if others > 20 {
		t.Error(others, "others may be there")
	}
}

// P14.2: a filter of more bytes than two can tell.
func TestGreat(t *testing.T) {
	l := keys(40000)
	x := open(t, build(t, l, 5000, 40))
	all, e := x.All()
	if e != api.OK || !slices.Equal(all, l) || x.Len() != len(l) {
		t.Fatal(e)
	}
}

func TestStem(t *testing.T) {
	for key, want := range map[string]string{"": "", "12345678": "", "123456789": "", "0123456789": "0", inner("ab", 3, true): "ab\x00\x01"} {
		if got := table.Stem(key); got != want {
			t.Errorf("%q: %q", key, got)
		}
	}
}

// foot replaces a table's foot.
func foot(b []byte, index, filter int) []byte {
	return append(slices.Clone(b[:len(b)-28]), eight(index)+eight(filter)+eight(3)+"tbl1"...)
}

// P14.1: what is no table.
func TestOpen(t *testing.T) {
	l := keys(30)
	good := build(t, l, 100, 10)
	end := len(good) - 28
	at, filter := int(good[end+6])<<8|int(good[end+7]), int(good[end+14])<<8|int(good[end+15])
	// with is the good table with another index.
	with := func(index []byte) []byte {
		b := append(slices.Clone(good[:at]), frame.Seal(index)...)
		n := len(b)
		return foot(append(append(b, good[filter:end]...), good[end:]...), at, n)
	}
	index := slices.Clone(good[at+8 : filter])
	entry := func(key string, place, size int) []byte {
		return codec.Put(codec.Put(codec.PutText(nil, key), uint64(place)), uint64(size))
	}
	row := func(l ...[]byte) []byte { return append([]byte{byte(len(l))}, bytes.Join(l, nil)...) }
	open(t, with(index))
	open(t, with(row(entry("a", 0, at))))
	open(t, with(row(entry("a", 0, 1), entry("b", 1, at-1))))
	// Two frames aren't one block.
	if row, e := open(t, with(row(entry(l[0], 0, at)))).Block(0); e != api.ErrForm || len(row) != 0 {
		t.Error(e)
	}
	turn := func(i int) []byte {
		b := slices.Clone(good)
		b[i] ^= 1
		return b
	}
	cases := []struct {
		what string
		b    []byte
		e    api.Errno
	}{
		{"nothing", nil, api.ErrShort},
		{"too short", good[len(good)-27:], api.ErrShort},
		{"only a foot", good[end:], api.ErrForm},
		{"cut", good[:len(good)-1], api.ErrForm},
		{"mark", turn(len(good) - 1), api.ErrForm},
		{"index elsewhere", foot(good, at-1, filter), api.ErrForm},
		{"index far away", foot(good, 60000, 65000), api.ErrForm},
		{"filter elsewhere", foot(good, at, filter+1), api.ErrForm},
		{"filter ahead of the index", foot(good, filter, at), api.ErrForm},
		{"places too great", append(slices.Clone(good[:end]), "\xff\xff\xff\xff\xff\xff\xff\xff\xff\xff\xff\xff\xff\xff\xff\xff"+eight(1)+"tbl1"...), api.ErrForm},
		{"bytes between", append(append(slices.Clone(good[:end]), 'x'), good[end:]...), api.ErrForm},
		{"index' length", turn(at + 3), api.ErrForm},
		{"index' length, far too great", turn(at), api.ErrForm},
		{"index' length, too great", turn(at + 1), api.ErrForm},
		{"filter's length, far too great", turn(filter), api.ErrForm},
		{"filter's length", turn(filter + 3), api.ErrForm},
		{"index' sum", turn(at + 4), api.ErrSum},
		{"index' key", turn(at + 8 + 4), api.ErrSum},
		{"filter's sum", turn(filter + 5), api.ErrSum},
		{"filter's bit", turn(filter + 9), api.ErrSum},
		{"no block", with([]byte{0}), api.ErrForm},
		{"no index", with(nil), api.ErrForm},
		{"bytes behind", with(append(slices.Clone(index), 0)), api.ErrForm},
		{"bytes missing", with(index[:len(index)-1]), api.ErrForm},
		{"same first keys", with(row(entry("a", 0, 1), entry("a", 1, at-1))), api.ErrForm},
		{"first keys that fall", with(row(entry("b", 0, 1), entry("a", 1, at-1))), api.ErrForm},
		{"not from 0 on", with(row(entry("a", 1, at-1))), api.ErrForm},
		{"not up to the index", with(row(entry("a", 0, at-1))), api.ErrForm},
		{"beyond the index", with(row(entry("a", 0, at+1))), api.ErrForm},
		{"a gap", with(row(entry("a", 0, 1), entry("b", 2, at-2))), api.ErrForm},
		{"too many", with(append([]byte{2}, entry("a", 0, at)...)), api.ErrForm},
		{"very many", with(append(codec.Put(nil, 1<<60), entry("a", 0, at)...)), api.ErrForm},
	}
	for _, c := range cases {
		if x, e := table.Open(c.b); e != c.e || x != nil {
			t.Errorf("%s: %d, want %d", c.what, e, c.e)
		}
	}
	none := turn(at + 4)
	none[at+8] = 0 // no block, and a wrong sum: the form is named first
	if _, e := table.Open(none); e != api.ErrForm {
		t.Error(e)
	}
	for i := range good {
		table.Open(good[:i])
		table.Open(good[i:])
	}
}

// P14.1: blocks that aren't right are told when they are read.
func TestWrongBlock(t *testing.T) {
	l := keys(30)
	good := build(t, l, 100, 10)
	n := open(t, good).Blocks()
	row, _ := open(t, good).Block(0)
	first := len(row)
	frames, _ := frame.All(good)
	for what, c := range map[string]struct {
		at int
		e  api.Errno
	}{"payload": {10, api.ErrSum}, "sum": {5, api.ErrSum}, "longer": {1, api.ErrForm}} {
		b := slices.Clone(good)
		b[c.at] ^= 1
		x := open(t, b)
		if row, e := x.Block(0); e != c.e || len(row) != 0 {
			t.Errorf("%s: %d", what, e)
		}
		if row, e := x.Block(1); e != api.OK || len(row) == 0 {
			t.Errorf("%s: the next block: %d", what, e)
		}
		if all, e := x.All(); e != c.e || len(all) != 0 {
			t.Errorf("%s: all: %d", what, e)
		}
		if k, ok, e := x.Seek(l[0]); k != "" || ok || e != c.e {
			t.Errorf("%s: seek: %d", what, e)
		}
		if k, ok, e := x.Seek(l[first]); k != l[first] || !ok || e != api.OK {
			t.Errorf("%s: seek in the next block: %d", what, e)
		}
	}
	// A block with its right sum that is none.
	bad := slices.Clone(frames[0])
	bad[0] = 1
	b := append(frame.Seal(bad), good[len(bad)+8:]...)
	x := open(t, b)
	if _, e := x.Block(0); e != api.ErrForm || n < 3 {
		t.Error(e)
	}
}

func TestNil(t *testing.T) {
	var x *table.Table
	row, e1 := x.Block(0)
	k, ok, e2 := x.Seek("")
	all, e3 := x.All()
	if x.Blocks() != 0 || x.Len() != 0 || x.May("a") || e1 != api.ErrArg || e2 != api.ErrArg || e3 != api.ErrArg || len(row)+len(all) != 0 || k != "" || ok {
		t.Fatal("a nil table")
	}
}
