package quota_test

import (
	"math"
	"math/big"
	"slices"
	"testing"

	"sentry/quota"
	"sentry/worlds"
)

// P38.1: the chapter's example, and what comes of it.
func TestTake(t *testing.T) {
	q := quota.New(1, 3)
	for i, c := range []struct {
		client string
		n, now uint64
		want   bool
	}{
		{"a", 3, 0, true}, {"a", 1, 0, false}, {"a", 0, 0, true}, {"a", 1, 1, true}, {"a", 1, 1, false}, {"b", 4, 1, false}, {"b", 3, 1, true},
		{"a", 3, 3, false}, {"a", 2, 3, true}, {"a", 3, 100, true}, {"a", 1, 100, false}, {"a", 1, 50, false}, {"a", 1, 101, true}, {"a", math.MaxUint64, 200, false}, {"a", 3, 200, true},
	} {
		if q.Take(c.client, c.n, c.now) != c.want {
			t.Fatalf("%d: %v", i, c)
		}
	}
}

// P38.1: who was seen; ticks that go back.
func TestSeen(t *testing.T) {
	q := quota.New(2, 10)
	if l := q.Clients(); len(l) != 0 {
		t.Error(l)
	}
	if q.Left("c", 5) != 10 || len(q.Clients()) != 0 {
		t.Error("one that wasn't seen")
	}
	q.Take("b", 99, 5)
	q.Take("a", 4, 5)
	q.Take("", 1, 5)
	if l := q.Clients(); !slices.Equal(l, []string{"", "a", "b"}) {
		t.Error(l)
	}
	for i, c := range []struct {
		client    string
		now, want uint64
	}{{"a", 5, 6}, {"a", 0, 6}, {"a", 6, 8}, {"a", 6, 8}, {"a", 3, 8}, {"b", 6, 10}, {"a", 7, 10}, {"a", 7, 10}, {"", 7, 10}} {
		if got := q.Left(c.client, c.now); got != c.want {
			t.Errorf("%d: %v: %d", i, c, got)
		}
	}
	q.Take("a", 10, 7)
	if q.Take("b", 1, 9) != true || q.Left("a", 0) != 4 {
		t.Error("the last tick is that of all clients")
	}
}

// P38.1, P38.2: against numbers without an end.
func TestPlain(t *testing.T) {
	rates := []uint64{0, 1, 3, 1 << 31, 1 << 32, 1<<32 + 1, math.MaxUint64}
	ticks := []uint64{0, 1, 2, 100, 1 << 33, math.MaxUint64 - 5, math.MaxUint64}
	for seed := range worlds.Draw(300) {
		d := seed*7 + 1
		rate, most := rates[d.Next(7)], rates[d.Next(7)]
		q := quota.New(rate, most)
		rate, most = min(rate, 1<<32), min(most, 1<<32)
		has := map[string]*big.Int{}
		at := map[string]uint64{}
		last := uint64(0)
		for range 30 {
			client := []string{"a", "b", "c"}[d.Next(3)]
			now := ticks[d.Next(2+d.Next(6))]
			last = max(last, now)
			now = last
			got := new(big.Int).SetUint64(most)
			if h, ok := has[client]; ok {
				more := new(big.Int).Mul(new(big.Int).SetUint64(rate), new(big.Int).SetUint64(now-at[client]))
				if more.Add(more, h); more.Cmp(got) < 0 {
					got = more
				}
			}
			if d.Next(3) == 0 {
				if left := q.Left(client, now); left != got.Uint64() {
					t.Fatalf("rate %d, most %d: %d left, want %d", rate, most, left, got)
				}
				continue
			}
			n := []uint64{0, 1, got.Uint64(), got.Uint64() + 1, got.Uint64() / 2, math.MaxUint64}[d.Next(6)]
			ok := n <= got.Uint64()
			if q.Take(client, n, now) != ok {
				t.Fatalf("rate %d, most %d: take of %d of %d", rate, most, n, got)
			}
			if ok {
				got.Sub(got, new(big.Int).SetUint64(n))
			}
			has[client], at[client] = got, now
		}
	}
}

// P38.2: what others take counts for nothing.
func TestOthers(t *testing.T) {
	q, alone := quota.New(2, 7), quota.New(2, 7)
	d := worlds.Draw(5)
	for now := range uint64(200) {
		q.Take("b", uint64(d.Next(9)), now)
		n := uint64(d.Next(6))
		if q.Take("a", n, now) != alone.Take("a", n, now) {
			t.Fatal(now)
		}
	}
}

func TestNil(t *testing.T) {
	var q *quota.Quota
	if q.Take("a", 0, 0) || q.Take("a", 1, 9) || q.Left("a", 9) != 0 || len(q.Clients()) != 0 {
		t.Fatal("a nil quota gives something")
	}
}
