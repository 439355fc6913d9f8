package bloom_test

import (
	"bytes"
	"strconv"
	"testing"

	"sentry/bloom"
)

func names(n int) []string {
	var l []string
	for i := range n {
		l = append(l, "key "+strconv.Itoa(i*7919))
	}
	return l
}

// plain is the filter, word for word as the chapter tells it.
func plain(keys []string, b int) []byte {
	if b < 1 {
		b = 1
	}
	if b > 40 {
		b = 40
	}
	size := len(keys) * b
	if size < 64 {
		size = 64
	}
	for size%8 != 0 {
		size++
	}
	k := 69 * b / 100
	if k < 1 {
		k = 1
	}
	if k > 30 {
		k = 30
	}
	f := make([]byte, size/8)
	for _, key := range keys {
		h := bloom.Hash(key)
		x, y := h%(1<<32), h/(1<<32)|1
		for i := range k {
			p := (x + uint64(i)*y) % uint64(size)
			f[p/8] |= 1 << (p % 8)
		}
	}
	return append(f, byte(k))
}

// P12.1: hashes.
func TestHash(t *testing.T) {
	for s, want := range map[string]uint64{"": 14695981039346656037, "a": 0xaf63dc4c8601ec8c, "foobar": 0x85944171f73967e8, "\xff": 0xaf64724c8602eb6e} {
		if got := bloom.Hash(s); got != want {
			t.Errorf("%q: %x", s, got)
		}
	}
}

// P12.1: filters bit by bit.
func TestMake(t *testing.T) {
	if got := bloom.Make(nil, 10); !bytes.Equal(got, []byte{0, 0, 0, 0, 0, 0, 0, 0, 6}) {
		t.Fatalf("%x", got)
	}
	for b := -1; b <= 42; b++ {
		for _, n := range []int{0, 1, 2, 3, 7, 8, 9, 64, 65, 100} {
			if got := bloom.Make(names(n), b); !bytes.Equal(got, plain(names(n), b)) {
				t.Fatalf("%d keys, %d bits: %x", n, b, got)
			}
		}
	}
	if got := bloom.Make(names(3), 1000); !bytes.Equal(got, bloom.Make(names(3), 40)) {
		t.Error("too many bits")
	}
	for b, k := range map[int]byte{1: 1, 2: 1, 3: 2, 10: 6, 40: 27} {
		got := bloom.Make(names(3), b)
		if got[len(got)-1] != k {
			t.Errorf("%d bits: k %d", b, got[len(got)-1])
		}
	}
	if a, b := bloom.Make([]string{"x", "x"}, 40), bloom.Make([]string{"x"}, 40); len(a) != 11 || len(b) != 9 {
		t.Error("each key of the row counts for the size")
	}
}

// P12.2: what a filter was made of may be in it; little else may.
func TestMay(t *testing.T) {
	for _, b := range []int{1, 5, 10, 40} {
		for _, n := range []int{1, 10, 500} {
			f := bloom.Make(names(n), b)
			for _, s := range names(n) {
				if !bloom.May(f, s) {
					t.Fatalf("%q is missing", s)
				}
			}
			wrong := 0
			for i := range 1000 {
				if bloom.May(f, "other "+strconv.Itoa(i)) {
					wrong++
				}
			}
			if b >= 10 && wrong > 50 {
				t.Fatalf("%d keys, %d bits: %d of 1000 others may be there", n, b, wrong)
			}
		}
	}
}

// P12.1: what is no filter lets all be.
func TestNoFilter(t *testing.T) {
	zero := make([]byte, 9)
	for i := range 10 {
		if got := bloom.May(zero[:min(i, 9)], "x"); !got {
			t.Fatalf("%d bytes", i)
		}
	}
	for k, may := range map[byte]bool{0: true, 1: false, 6: false, 30: false, 31: true, 255: true} {
		zero[8] = k
		if bloom.May(zero, "x") != may {
			t.Errorf("k %d", k)
		}
	}
	if bloom.May([]byte{0, 0, 0, 0, 0, 0, 0, 1}, "x") != true || bloom.May(nil, "") != true {
		t.Error("too short")
	}
	full := bytes.Repeat([]byte{255}, 12)
	full[11] = 30
	if !bloom.May(full, "x") {
		t.Error("all places are 1")
	}
	f := bloom.Make([]string{"x"}, 10)
	for i := range 64 {
		if f[i/8]>>(i%8)&1 == 1 {
			f[i/8] ^= 1 << (i % 8)
			if bloom.May(f, "x") {
				t.Errorf("place %d is 0", i)
			}
			f[i/8] ^= 1 << (i % 8)
		}
	}
}
