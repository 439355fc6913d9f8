package wal_test

import (
	"math"
	"slices"
	"strconv"
	"strings"
	"testing"

	"sentry/api"
	"sentry/frame"
	"sentry/wal"
)

// commit is a commit of n entries.
func commit(rev uint64, n int) api.Commit {
	c := api.Commit{Rev: rev}
	for i := range n {
		c.Entries = append(c.Entries, api.Entry{Key: "key " + strconv.Itoa(i), Rev: rev, Del: i%3 == 1})
	}
	return c
}

func same(a, b api.Commit) bool { return a.Rev == b.Rev && slices.Equal(a.Entries, b.Entries) }

func encode(t *testing.T, c api.Commit) []byte {
	t.Helper()
	b, e := wal.Encode(c)
	if e != api.OK {
		t.Fatal(e)
	}
	return b
}

// P20.1: records byte by byte.
func TestEncode(t *testing.T) {
	c := api.Commit{Rev: 300, Entries: []api.Entry{{Key: "ab", Rev: 300}, {Key: "", Rev: 300, Del: true}}}
	if got, want := encode(t, c), frame.Seal([]byte("\xac\x02\x02\x00\x02ab\x01\x00")); !slices.Equal(got, want) {
		t.Fatalf("%q", got)
	}
	long := commit(1, 1)
	long.Entries[0].Key = strings.Repeat("k", 65536)
	for _, c := range []api.Commit{c, commit(1, 1), commit(math.MaxUint64, 4*api.MaxBatch), long} {
		payload, _, _ := frame.Next(encode(t, c))
		got, e := wal.Decode(payload)
		if e != api.OK || !same(got, c) {
			t.Errorf("%d: %d", c.Rev, e)
		}
	}
}

// P20.1: commits that may not be.
func TestNoCommit(t *testing.T) {
	long, other := commit(1, 2), commit(5, 3)
	long.Entries[1].Key = strings.Repeat("k", 65537)
	other.Entries[2].Rev = 6
	for i, c := range []api.Commit{{}, {Rev: 1}, commit(0, 1), commit(1, 4*api.MaxBatch+1), long, other} {
		if b, e := wal.Encode(c); e != api.ErrForm || len(b) != 0 {
			t.Errorf("%d: %d", i, e)
		}
	}
}

// record writes a record of n entries without keys, whether it may be or not.
func record(n int) string {
	return "\x01" + string([]byte{byte(n) | 128, byte(n >> 7)}) + strings.Repeat("\x00\x00", n)
}

func TestDecode(t *testing.T) {
	good := "\x07\x02\x00\x02ab\x01\x01c"
	if c, e := wal.Decode([]byte(good)); e != api.OK || !same(c, api.Commit{Rev: 7, Entries: []api.Entry{{Key: "ab", Rev: 7}, {Key: "c", Rev: 7, Del: true}}}) {
		t.Fatal(c, e)
	}
	long := "\x01\x01\x00\x81\x80\x04" + strings.Repeat("k", 65537)
	bad := []string{good + "x", good + "\x00", "\x00" + good[1:], "\x07\x00", "\x07\x01" + good[2:], "\x07\x03" + good[2:], "\x87\x00" + good[1:], "\x07\x02\x02" + good[3:], "\x07\x82\x00" + good[2:], "\x07\x02\x80\x00" + good[3:], "\x07\x02\x00\x82\x00ab\x01\x01c", long, record(257), record(300)}
	for i := range good {
		bad = append(bad, good[:i])
	}
	bad = append(bad, "\x07\xff\xff\xff\xff\xff\xff\xff\xff\x7f"+good[2:], string(frame.Seal([]byte(good))))
	for _, s := range bad {
		if c, e := wal.Decode([]byte(s)); e != api.ErrForm || !same(c, api.Commit{}) {
			t.Errorf("%.20q: %d", s, e)
		}
	}
	if _, e := wal.Decode([]byte(record(256))); e != api.OK {
		t.Error(e)
	}
}

// P20.2: cut at any place.
func TestReplay(t *testing.T) {
	if l, n := wal.Replay(nil); len(l) != 0 || n != 0 {
		t.Fatal(l, n)
	}
	for _, first := range []uint64{1, 77} {
		var b []byte
		var all []api.Commit
		ends := []int{0}
		for i := range uint64(5) {
			all = append(all, commit(first+i, int(i)+1))
			b = append(b, encode(t, all[i])...)
			ends = append(ends, len(b))
		}
		for cut := range len(b) + 1 {
			whole := 0
			for whole < 5 && ends[whole+1] <= cut {
				whole++
			}
			l, n := wal.Replay(b[:cut])
			if len(l) != whole || n != ends[whole] {
				t.Fatalf("cut at %d: %d commits, %d bytes", cut, len(l), n)
			}
			for i, c := range l {
				if !same(c, all[i]) {
					t.Fatalf("cut at %d: %v", cut, c)
				}
			}
		}
		for i := range b {
			turned := slices.Clone(b)
			turned[i] ^= 16
			whole := 0
			for ends[whole+1] <= i {
				whole++
			}
			if l, n := wal.Replay(turned); len(l) != whole || n != ends[whole] {
				t.Fatalf("byte %d turned: %d commits, %d bytes", i, len(l), n)
			}
		}
	}
}

// P20.1: what doesn't follow ends a log.
func TestReplayEnds(t *testing.T) {
	one, two := encode(t, commit(5, 1)), encode(t, commit(6, 2))
	for i, next := range [][]byte{encode(t, commit(5, 1)), encode(t, commit(7, 1)), encode(t, commit(4, 1)), frame.Seal([]byte("none")), frame.Seal(nil), []byte("rest")} {
		b := slices.Concat(one, two, next, encode(t, commit(7, 1)))
		if i == 1 {
			b = slices.Concat(one, next, two)
			if l, n := wal.Replay(b); len(l) != 1 || n != len(one) {
				t.Errorf("a gap: %d %d", len(l), n)
			}
			continue
		}
		if l, n := wal.Replay(b); len(l) != 2 || n != len(one)+len(two) {
			t.Errorf("%d: %d %d", i, len(l), n)
		}
	}
	last := encode(t, commit(math.MaxUint64, 1))
	if l, n := wal.Replay(slices.Concat(last, one)); len(l) != 1 || n != len(last) {
		t.Error(len(l), n)
	}
}
