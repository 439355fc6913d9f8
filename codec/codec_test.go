package codec_test

import (
	"bytes"
	"cmp"
	"math"
	"strings"
	"testing"

	"sentry/api"
	"sentry/codec"
)

var numbers = []uint64{0, 1, 127, 128, 129, 255, 300, 16383, 16384, 1<<21 - 1, 1 << 21, 1<<32 - 1, 1 << 32, 1 << 62, 1<<63 - 1, 1 << 63, math.MaxUint64}

// P2.1: numbers byte by byte.
func TestPut(t *testing.T) {
	cases := []struct {
		v uint64
		b string
	}{
		{0, "\x00"}, {1, "\x01"}, {127, "\x7f"}, {128, "\x80\x01"}, {300, "\xac\x02"}, {16384, "\x80\x80\x01"},
		{1 << 63, "\x80\x80\x80\x80\x80\x80\x80\x80\x80\x01"},
		{math.MaxUint64, "\xff\xff\xff\xff\xff\xff\xff\xff\xff\x01"},
	}
	for _, c := range cases {
		if got := codec.Put(nil, c.v); string(got) != c.b {
			t.Errorf("%d: %x, want %x", c.v, got, c.b)
		}
	}
	if got := codec.PutText([]byte{7}, "abc"); string(got) != "\x07\x03abc" {
		t.Errorf("%x", got)
	}
	if got := codec.PutText(nil, ""); string(got) != "\x00" {
		t.Errorf("%x", got)
	}
}

// P2.1: neither what is handed in nor its spare room is touched.
func TestSpareRoom(t *testing.T) {
	room := []byte("abcdefgh")
	for _, f := range []func([]byte) []byte{
		func(b []byte) []byte { return codec.Put(b, 300) },
		func(b []byte) []byte { return codec.PutText(b, "xyz") },
		func(b []byte) []byte { return codec.PutText(b, "") },
	} {
		got := f(room[:2])
		if string(room) != "abcdefgh" || !bytes.HasPrefix(got, []byte("ab")) {
			t.Fatalf("%q %q", room, got)
		}
		got[0] = 'X'
		if room[0] != 'a' {
			t.Fatal("the answer shares memory")
		}
	}
}

// P2.1: what is no number.
func TestGet(t *testing.T) {
	ff := strings.Repeat("\xff", 9)
	cases := []struct {
		b string
		v uint64
		n int
		e api.Errno
	}{
		{"", 0, 0, api.ErrShort},
		{"\x80", 0, 0, api.ErrShort},
		{ff, 0, 0, api.ErrShort},
		{strings.Repeat("\x80", 9), 0, 0, api.ErrShort},
		{strings.Repeat("\x80", 10), 0, 0, api.ErrForm},
		{strings.Repeat("\x80", 11) + "\x01", 0, 0, api.ErrForm},
		{ff + "\x01", math.MaxUint64, 10, api.OK},
		{ff + "\x02", 0, 0, api.ErrForm},
		{ff + "\x7f", 0, 0, api.ErrForm},
		{ff + "\x00", 0, 0, api.ErrForm},
		{"\x00", 0, 1, api.OK},
		{"\x80\x00", 0, 0, api.ErrForm},
		{"\xac\x02\x05", 300, 2, api.OK},
		{"\x81\x80\x00", 0, 0, api.ErrForm},
	}
	for _, c := range cases {
		v, n, e := codec.Get([]byte(c.b))
		if v != c.v || n != c.n || e != c.e {
			t.Errorf("%x: %d %d %d", c.b, v, n, e)
		}
	}
}

func TestGetText(t *testing.T) {
	cases := []struct {
		b string
		s string
		n int
		e api.Errno
	}{
		{"", "", 0, api.ErrShort},
		{"\x00", "", 1, api.OK},
		{"\x02ab", "ab", 3, api.OK},
		{"\x02abc", "ab", 3, api.OK},
		{"\x03ab", "", 0, api.ErrShort},
		{"\x82\x00ab", "", 0, api.ErrForm},
		{strings.Repeat("\xff", 9) + "\x01ab", "", 0, api.ErrShort},
		{strings.Repeat("\xff", 8) + "\x7fab", "", 0, api.ErrShort},
	}
	for _, c := range cases {
		s, n, e := codec.GetText([]byte(c.b))
		if s != c.s || n != c.n || e != c.e {
			t.Errorf("%x: %q %d %d", c.b, s, n, e)
		}
	}
}

// P2.2.
func TestThereAndBack(t *testing.T) {
	for _, v := range numbers {
		b := codec.Put([]byte("ahead"), v)
		got, n, e := codec.Get(append(b[5:len(b):len(b)], 200, 1))
		if got != v || n != len(b)-5 || e != api.OK {
			t.Errorf("%d: %d %d %d", v, got, n, e)
		}
	}
	for _, s := range []string{"", "a", "\x00", strings.Repeat("é", 200)} {
		b := codec.PutText(nil, s)
		got, n, e := codec.GetText(append(b, 9))
		if got != s || n != len(b) || e != api.OK {
			t.Errorf("%q: %q %d %d", s, got, n, e)
		}
	}
}

func TestInner(t *testing.T) {
	cases := []struct {
		e api.Entry
		s string
	}{
		{api.Entry{Key: "a"}, "a\x00\x01\xff\xff\xff\xff\xff\xff\xff\xff\x01"},
		{api.Entry{Key: "a", Del: true}, "a\x00\x01\xff\xff\xff\xff\xff\xff\xff\xff\x00"},
		{api.Entry{Rev: math.MaxUint64}, "\x00\x01\x00\x00\x00\x00\x00\x00\x00\x00\x01"},
		{api.Entry{Key: "\x00b\x00", Rev: 0x0102030405060708}, "\x00\xffb\x00\xff\x00\x01\xfe\xfd\xfc\xfb\xfa\xf9\xf8\xf7\x01"},
	}
	for _, c := range cases {
		if got := codec.Inner(c.e); got != c.s {
			t.Errorf("%v: %x", c.e, got)
		}
		if got, e := codec.Outer(c.s); got != c.e || e != api.OK {
			t.Errorf("%x: %v %d", c.s, got, e)
		}
	}
}

func TestNoInner(t *testing.T) {
	good := codec.Inner(api.Entry{Key: "ab", Rev: 7})
	bad := []string{"", "a", "\x00", "\x00\x01", good + "x", good[1:2] + good[3:], good[:len(good)-1] + "\x02", "a\x00\x02" + good[4:], "a\x00\x00" + good[4:], "a\x00", "a\x00\xff", "\x00\x00" + good}
	for i := range len(good) {
		bad = append(bad, good[:i])
	}
	for _, s := range bad {
		if got, e := codec.Outer(s); e != api.ErrForm || got != (api.Entry{}) {
			t.Errorf("%x: %v %d", s, got, e)
		}
	}
}

// P2.3.
func TestOrder(t *testing.T) {
	var l []api.Entry
	for _, k := range []string{"", "\x00", "\x00\x00", "\x00\x01", "\x00\xff", "\x01", "a", "a\x00", "a\x00\x01", "a\x00a", "a\x01", "aa", "b", "\xff", "\xff\xff"} {
		for _, r := range []uint64{0, 1, 2, 255, 256, 1 << 40, math.MaxUint64} {
			l = append(l, api.Entry{Key: k, Rev: r}, api.Entry{Key: k, Rev: r, Del: true})
		}
	}
	less := func(a, b api.Entry) int {
		del := 0
		if a.Del != b.Del {
			del = 1
			if a.Del {
				del = -1
			}
		}
		return cmp.Or(strings.Compare(a.Key, b.Key), cmp.Compare(b.Rev, a.Rev), del)
	}
	for _, a := range l {
		for _, b := range l {
			if strings.Compare(codec.Inner(a), codec.Inner(b)) != less(a, b) {
				t.Fatalf("%v %v", a, b)
			}
		}
		if got, e := codec.Outer(codec.Inner(a)); got != a || e != api.OK {
			t.Fatalf("%v: %v %d", a, got, e)
		}
	}
}
