package block_test

import (
	"slices"
	"strings"
	"testing"

	"sentry/api"
	"sentry/block"
)

// rows are rows of rising keys, of many lengths.
func rows() [][]string {
	base := []string{"", "\x00", "\x00\x01", "a", "a\x00", "ab", "abc", "abd", "b", strings.Repeat("c", 200), strings.Repeat("c", 300), strings.Repeat("c", 300) + "d", "\xff"}
	var long []string
	for i := range 300 {
		long = append(long, "row "+string([]byte{byte('a' + i/100), byte('a' + i/10%10), byte('a' + i%10)}))
	}
	l := [][]string{nil, {""}, {"x"}, base}
	for _, n := range []int{2, 15, 16, 17, 31, 32, 33, 300} {
		l = append(l, long[:n])
	}
	return l
}

func build(t *testing.T, keys []string) []byte {
	t.Helper()
	b, e := block.Build(keys)
	if e != api.OK {
		t.Fatal(e)
	}
	return b
}

// P13.1: blocks byte by byte.
func TestBuild(t *testing.T) {
	tail := "\x00\x00\x00\x00\x00\x00\x00\x01"
	cases := []struct {
		keys []string
		want string
	}{
		{nil, "\x00\x00\x00\x00"},
		{[]string{"ab", "abc"}, "\x00\x02ab\x02\x01c" + tail},
		{[]string{""}, "\x00\x00" + tail},
		{[]string{"", "a", "b"}, "\x00\x00\x00\x01a\x00\x01b" + tail},
		{[]string{strings.Repeat("x", 130), strings.Repeat("x", 131)}, "\x00\x82\x01" + strings.Repeat("x", 130) + "\x82\x01\x01x" + tail},
	}
	for _, c := range cases {
		if b := build(t, c.keys); string(b) != c.want {
			t.Errorf("%q: %q", c.keys, b)
		}
	}
	b := build(t, rows()[7][:17])
	first, last := "\x00\x07row aaa", "\x00\x07row abg"
	if !strings.HasPrefix(string(b), first+"\x06\x01b") || !strings.HasSuffix(string(b), last+"\x00\x00\x00\x00\x00\x00\x00\x37\x00\x00\x00\x02") {
		t.Errorf("%q", b)
	}
	for _, keys := range [][]string{{"a", "a"}, {"b", "a"}, {"a", ""}, {"a", "b", "c", "b"}} {
		if b, e := block.Build(keys); e != api.ErrOrder || len(b) != 0 {
			t.Errorf("%q: %d", keys, e)
		}
	}
}

// P13.1, P13.2: places of more than one byte, and many whole keys.
func TestGreat(t *testing.T) {
	for _, size := range []int{20, 5000, 1200000} {
		var keys []string
		for i := range 40 {
			keys = append(keys, string([]byte{byte('a' + i)})+strings.Repeat("x", size))
		}
		b := build(t, keys)
		each := len(keys[0]) + len("\x00") + map[int]int{20: 1, 5000: 2, 1200000: 3}[size]
		want := []byte{0, 0, 0, 0}
		for _, p := range []int{16 * each, 32 * each, 3} {
			want = append(want, byte(p>>24), byte(p>>16), byte(p>>8), byte(p))
		}
		if got := b[len(b)-len(want):]; !slices.Equal(got, want) {
			t.Fatalf("size %d: %x, want %x", size, got, want)
		}
		for i, k := range keys {
			if got, ok, e := block.Seek(b, k); got != k || !ok || e != api.OK {
				t.Fatal(size, i, e)
			}
			if got, ok, e := block.Seek(b, k+"x"); ok != (i < 39) || ok && got != keys[i+1] || e != api.OK {
				t.Fatal(size, i, e)
			}
		}
		if got, e := block.Keys(b); e != api.OK || !slices.Equal(got, keys) {
			t.Fatal(size, e)
		}
	}
	var keys []string
	for i := range 5000 {
		keys = append(keys, string([]byte{byte(i >> 8), byte(i)}))
	}
	b := build(t, keys)
	if !strings.HasSuffix(string(b), "\x00\x00\x01\x39") {
		t.Fatal("how many whole ones")
	}
	for i := 0; i < len(keys); i += 37 {
		if got, ok, e := block.Seek(b, keys[i]); got != keys[i] || !ok || e != api.OK {
			t.Fatal(i, e)
		}
	}
	if got, e := block.Keys(b); e != api.OK || len(got) != 5000 {
		t.Fatal(e)
	}
}

// P13.2.
func TestThereAndBack(t *testing.T) {
	for _, keys := range rows() {
		b := build(t, keys)
		got, e := block.Keys(b)
		if e != api.OK || !slices.Equal(got, keys) {
			t.Fatalf("%q: %q %d", keys, got, e)
		}
		ask := []string{"", "\x00", "a", "aa", "abca", "row", "row a", "row ba", "row czz", "zz", "\xff", "\xff\x00", strings.Repeat("c", 199), strings.Repeat("c", 250)}
		for _, k := range keys {
			ask = append(ask, k, k+"\x00", k[:len(k)/2])
		}
		for _, k := range ask {
			i, _ := slices.BinarySearch(keys, k)
			want, ok := "", i < len(keys)
			if ok {
				want = keys[i]
			}
			if got, found, e := block.Seek(b, k); got != want || found != ok || e != api.OK {
				t.Fatalf("seek of %q: %q %t %d, want %q", k, got, found, e, want)
			}
		}
	}
}

// P13.1: what is no block.
func TestNoBlock(t *testing.T) {
	tail := "\x00\x00\x00\x00\x00\x00\x00\x01"
	bad := []string{"", "\x00", "\x00\x00\x00", "\x00\x00\x00\x01", "\xff\xff\xff\xff", "x\x00\x00\x00\x00", "\x00\x01a\x00\x00\x00\x00",
		"\x00\x02a" + tail,                                   // too short
		"\x01\x01a" + tail,                                   // shares with nothing
		"\x00\x01a\x00\x01a" + tail,                          // doesn't rise
		"\x00\x01b\x00\x01a" + tail,                          // falls
		"\x00\x02ab\x01\x02bc" + tail,                        // shares less than it could
		"\x00\x02ab\x03\x01c" + tail,                         // shares more than there is
		"\x00\x81\x00a" + tail,                               // a number written too long
		"\x00\x01a\x00\x00\x00\x01\x00\x00\x00\x01",          // a wrong place
		"\x00\x01a" + "\x00\x00\x00\x00" + tail[:7] + "\x02", // too many places
		"\x00\x00\x00\x01",
	}
	for _, s := range bad {
		if keys, e := block.Keys([]byte(s)); e != api.ErrForm || len(keys) != 0 {
			t.Errorf("%q: %q %d", s, keys, e)
		}
	}
	good := build(t, rows()[7])
	for i := range good {
		for _, b := range [][]byte{good[:i], append(slices.Clone(good[:i]), good[i+1:]...)} {
			if keys, e := block.Keys(b); e != api.ErrForm || len(keys) != 0 {
				t.Fatalf("without byte %d: %d", i, e)
			}
			block.Seek(b, "row ab")
		}
		for bit := range 8 {
			b := slices.Clone(good)
			b[i] ^= 1 << bit
			keys, e := block.Keys(b)
			if e == api.OK {
				if again := build(t, keys); !slices.Equal(again, b) {
					t.Fatalf("bit %d of byte %d: read, but no block", bit, i)
				}
			} else if e != api.ErrForm || len(keys) != 0 {
				t.Fatal(e)
			}
			for _, k := range []string{"", "row ab", "zz"} {
				if s, ok, e := block.Seek(b, k); e != api.OK && (e != api.ErrForm || ok || s != "") {
					t.Fatal(s, ok, e)
				}
			}
		}
	}
	for _, s := range []string{"", "\x00\x00\x00", "\x00\x00\x00\x01", "abc\x00\x00\x00\x01", "\xff\xff\xff\xff", "\x00\x00\x00\x00\x00\x00\x00\x02"} {
		if k, ok, e := block.Seek([]byte(s), ""); k != "" || ok || e != api.ErrForm {
			t.Errorf("%q: %q %t %d", s, k, ok, e)
		}
	}
	if k, ok, e := block.Seek([]byte("\x00\x00\x00\x00"), ""); k != "" || ok || e != api.OK {
		t.Error(k, ok, e)
	}
}

func TestCommon(t *testing.T) {
	for _, c := range []struct {
		a, b string
		n    int
	}{{"", "", 0}, {"a", "", 0}, {"abc", "abd", 2}, {"ab", "abc", 2}, {"abc", "abc", 3}, {"x", "y", 0}, {"\x00\x00", "\x00\x01", 1}} {
		if block.Common(c.a, c.b) != c.n || block.Common(c.b, c.a) != c.n {
			t.Errorf("%q %q", c.a, c.b)
		}
	}
}
