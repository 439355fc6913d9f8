package token_test

import (
	"math"
	"strings"
	"testing"

	"sentry/api"
	"sentry/frame"
	"sentry/token"
)

const signs = "abcdefghijklmnopqrstuvwxyz234567"

var ids = []uint32{0, 1, 7, 255, 256, 1 << 31, math.MaxUint32, 0x01020304}
var revs = []uint64{0, 1, 31, 32, 1 << 33, math.MaxUint64, 0x0102030405060708}

// bits are the 130 bits that a token's signs stand for.
func bits(s string) []int {
	var l []int
	for _, c := range s {
		v := strings.IndexRune(signs, c)
		for i := range 5 {
			l = append(l, v>>(4-i)&1)
		}
	}
	return l
}

// write makes signs of bits.
func write(l []int) string {
	s := ""
	for i := 0; i < len(l); i += 5 {
		v := 0
		for j := range 5 {
			v = v<<1 | l[i+j]
		}
		s += signs[v : v+1]
	}
	return s
}

// P33.1: tokens bit by bit.
func TestMake(t *testing.T) {
	if got := token.Make(0, 0); !strings.HasPrefix(got, strings.Repeat("a", 19)) {
		t.Error(got)
	}
	for _, id := range ids {
		for _, rev := range revs {
			s := token.Make(id, rev)
			if len(s) != 26 {
				t.Fatal(s)
			}
			l := bits(s)
			var b [16]byte
			for i := range 128 {
				b[i/8] = b[i/8]<<1 | byte(l[i])
			}
			sum := uint32(b[12])<<24 | uint32(b[13])<<16 | uint32(b[14])<<8 | uint32(b[15])
			ofID := uint32(b[0])<<24 | uint32(b[1])<<16 | uint32(b[2])<<8 | uint32(b[3])
			ofRev := uint64(0)
			for _, c := range b[4:12] {
				ofRev = ofRev<<8 | uint64(c)
			}
			if ofID != id || ofRev != rev || sum != frame.Sum(b[:12]) || l[128]+l[129] != 0 {
				t.Fatalf("%s: %x", s, b)
			}
			// P33.2: it tells what it was made of.
			if i, r, e := token.Read(s); i != id || r != rev || e != api.OK {
				t.Fatalf("%s: %d %d %d", s, i, r, e)
			}
		}
	}
}

// P33.1: what is no token.
func TestRead(t *testing.T) {
	good := token.Make(7, 300)
	for _, s := range []string{"", "a", good[:25], good + "a", strings.ToUpper(good), good[:25] + "=", "1" + good[1:], "0" + good[1:], "8" + good[1:], " " + good[1:], good[:3] + "\x00" + good[4:], strings.Repeat("é", 13)} {
		if i, r, e := token.Read(s); i != 0 || r != 0 || e != api.ErrForm {
			t.Errorf("%q: %d", s, e)
		}
	}
	l := bits(good)
	for _, at := range []int{128, 129} {
		l[at] ^= 1
		if _, _, e := token.Read(write(l)); e != api.ErrForm {
			t.Error(at, e)
		}
		l[at] ^= 1
	}
	l[129], l[0] = 1, l[0]^1
	if _, _, e := token.Read(write(l)); e != api.ErrForm {
		t.Error("a wrong form is named first:", e)
	}
}

// P33.2: bits within 32 places side by side are turned.
func TestTurned(t *testing.T) {
	good := bits(token.Make(0x12345678, 0x9abcdef012345678))
	for first := range 128 {
		for _, mask := range []uint32{0, 1, 0x80, 0x10001, 0x40000000, 0x7fffffff, 0x2aaaaaaa, 0x12345678} {
			l := append([]int(nil), good...)
			l[first] ^= 1
			for i := range 31 {
				if at := first + 1 + i; mask>>i&1 == 1 && at < 96 && first < 96 {
					l[at] ^= 1
				}
			}
			if i, r, e := token.Read(write(l)); e != api.ErrSum || i != 0 || r != 0 {
				t.Fatalf("turned from %d by %x: %d", first, mask, e)
			}
		}
	}
}

// P33.1: which revision is asked for.
func TestChoose(t *testing.T) {
	at := func(rev uint64) string { return token.Make(7, rev) }
	turned := bits(at(5))
	turned[3] ^= 1
	for i, c := range []struct {
		s    string
		how  int
		want uint64
		e    api.Errno
	}{
		{"", api.Latest, 9, api.OK}, {"x", api.Latest, 9, api.OK}, {at(99), api.Latest, 9, api.OK}, {token.Make(8, 5), api.Latest, 9, api.OK},
		{"", 0, 0, api.ErrArg}, {"", 4, 0, api.ErrArg}, {"", -1, 0, api.ErrArg}, {at(5), 0, 0, api.ErrArg},
		{"", api.AtLeast, 0, api.ErrForm}, {"", api.Exact, 0, api.ErrForm}, {write(turned), api.AtLeast, 0, api.ErrSum}, {write(turned), api.Exact, 0, api.ErrSum},
		{token.Make(8, 5), api.AtLeast, 0, api.ErrArg}, {token.Make(8, 99), api.Exact, 0, api.ErrArg},
		{at(0), api.AtLeast, 9, api.OK}, {at(5), api.AtLeast, 9, api.OK}, {at(9), api.AtLeast, 9, api.OK}, {at(10), api.AtLeast, 0, api.ErrRev},
		{at(2), api.Exact, 0, api.ErrRev}, {at(3), api.Exact, 3, api.OK}, {at(5), api.Exact, 5, api.OK}, {at(9), api.Exact, 9, api.OK}, {at(10), api.Exact, 0, api.ErrRev}, {at(math.MaxUint64), api.Exact, 0, api.ErrRev},
	} {
		if got, e := token.Choose(7, c.s, c.how, 3, 9); got != c.want || e != c.e {
			t.Errorf("%d: %d %d, want %d %d", i, got, e, c.want, c.e)
		}
	}
}
