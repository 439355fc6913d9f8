package frame_test

import (
	"bytes"
	"slices"
	"testing"

	"sentry/api"
	"sentry/frame"
)

// slow is the sum, word for word as the chapter tells it.
func slow(b []byte) uint32 {
	sum := ^uint32(0)
	for _, c := range b {
		sum ^= uint32(c)
		for range 8 {
			last := sum & 1
			sum >>= 1
			if last == 1 {
				sum ^= 0xEDB88320
			}
		}
	}
	return ^sum
}

// P3.1: sums.
func TestSum(t *testing.T) {
	if frame.Sum([]byte("123456789")) != 0xCBF43926 || frame.Sum(nil) != 0 {
		t.Fatal("sum")
	}
	for i := range 256 {
		b := []byte{byte(i), byte(i * 7), 'x', byte(255 - i)}
		for n := range 5 {
			if frame.Sum(b[:n]) != slow(b[:n]) {
				t.Fatalf("%x", b[:n])
			}
		}
	}
}

// P3.1: a frame byte by byte.
func TestSeal(t *testing.T) {
	if got := frame.Seal([]byte("123456789")); string(got) != "\x00\x00\x00\x09\xcb\xf4\x39\x26123456789" {
		t.Fatalf("%x", got)
	}
	if got := frame.Seal(nil); string(got) != "\x00\x00\x00\x00\x00\x00\x00\x00" {
		t.Fatalf("%x", got)
	}
	if got := frame.Seal(make([]byte, 258)); got[2] != 1 || got[3] != 2 || len(got) != 266 {
		t.Fatalf("%x", got[:8])
	}
}

func TestNext(t *testing.T) {
	b := append(frame.Seal([]byte("ab")), "rest"...)
	got, n, e := frame.Next(b)
	if string(got) != "ab" || n != 10 || e != api.OK {
		t.Fatalf("%q %d %d", got, n, e)
	}
	got[0] = 'X'
	if b[8] != 'a' {
		t.Fatal("the payload shares memory")
	}
	for i := range 10 {
		if got, n, e := frame.Next(b[:i]); len(got) != 0 || n != 0 || e != api.ErrShort {
			t.Fatalf("%d: %q %d %d", i, got, n, e)
		}
	}
	b[9] ^= 4
	if got, n, e := frame.Next(b); len(got) != 0 || n != 0 || e != api.ErrSum {
		t.Fatalf("%q %d %d", got, n, e)
	}
	if _, _, e := frame.Next(b[:9]); e != api.ErrShort {
		t.Fatal("too short, and of another sum: ErrShort is named first")
	}
	if _, _, e := frame.Next([]byte("\xff\xff\xff\xff\x00\x00\x00\x00abc")); e != api.ErrShort {
		t.Fatal(e)
	}
}

// P3.2: cut at any place.
func TestAll(t *testing.T) {
	payloads := [][]byte{[]byte("one"), nil, []byte("three"), make([]byte, 300), []byte("\x00\x00\x00\x00\x00\x00\x00\x00")}
	var b []byte
	ends := []int{0}
	for _, p := range payloads {
		b = append(b, frame.Seal(p)...)
		ends = append(ends, len(b))
	}
	for cut := range len(b) + 1 {
		whole := 0
		for whole < len(payloads) && ends[whole+1] <= cut {
			whole++
		}
		l, n := frame.All(b[:cut])
		if len(l) != whole || n != ends[whole] {
			t.Fatalf("cut at %d: %d frames, %d bytes", cut, len(l), n)
		}
		for i, p := range l {
			if !bytes.Equal(p, payloads[i]) {
				t.Fatalf("cut at %d: frame %d is %q", cut, i, p)
			}
		}
	}
	l, _ := frame.All(b)
	l[0][0] = 'X'
	l[0] = append(l[0], "more"...)
	if !slices.Equal(l[2], payloads[2]) || b[8] != 'o' {
		t.Fatal("payloads share memory")
	}
	b[ends[2]+8] ^= 1
	if l, n := frame.All(b); len(l) != 2 || n != ends[2] {
		t.Fatal("frames behind a wrong one are read")
	}
}

// P3.3: bits within 32 places side by side.
func TestTurned(t *testing.T) {
	good := frame.Seal([]byte("some payload, not long"))
	turn := func(b []byte, at int) { b[at/8] ^= 1 << (at % 8) }
	for _, span := range [][2]int{{4 * 8, 8 * 8}, {8 * 8, len(good) * 8}} {
		for first := span[0]; first < span[1]; first++ {
			for _, mask := range []uint32{0, 1, 0x80, 0x10001, 0x40000000, 0x7fffffff, 0x2aaaaaaa, 0x12345678} {
				b := slices.Clone(good)
				turn(b, first)
				for i := range 31 {
					if mask>>i&1 == 1 && first+1+i < span[1] {
						turn(b, first+1+i)
					}
				}
				if _, _, e := frame.Next(b); e != api.ErrSum {
					t.Fatalf("turned from bit %d by %x: %d", first, mask, e)
				}
			}
		}
	}
}
