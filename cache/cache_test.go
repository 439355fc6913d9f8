package cache_test

import (
	"slices"
	"strings"
	"testing"

	"sentry/cache"
)

// item is an item of a plain row, in which what was put or got last stands last.
type item struct {
	file, block int
	keys        []string
}

type plain struct {
	items []item
	room  int
}

func (p *plain) used() int {
	n := 0
	for _, x := range p.items {
		n += 1 + len(strings.Join(x.keys, ""))
	}
	return n
}

func (p *plain) find(file, block int) int {
	return slices.IndexFunc(p.items, func(x item) bool { return x.file == file && x.block == block })
}

func (p *plain) put(file, block int, keys []string) {
	if i := p.find(file, block); i >= 0 {
		p.items = slices.Delete(p.items, i, i+1)
	}
	p.items = append(p.items, item{file, block, slices.Clone(keys)})
	for p.used() > p.room {
		p.items = p.items[1:]
	}
}

func (p *plain) get(file, block int) ([]string, bool) {
	i := p.find(file, block)
	if i < 0 {
		return nil, false
	}
	x := p.items[i]
	p.items = append(slices.Delete(p.items, i, i+1), x)
	return x.keys, true
}

// P15.1: the chapter's example.
func TestExample(t *testing.T) {
	c := cache.New(4)
	c.Put(1, 1, []string{"ab"})
	c.Put(1, 2, []string{"c"})
	if _, ok := c.Get(1, 1); ok || c.Len() != 1 || c.Used() != 2 {
		t.Fatal(c.Len(), c.Used())
	}
	if keys, ok := c.Get(1, 2); !ok || !slices.Equal(keys, []string{"c"}) {
		t.Fatal(keys, ok)
	}
}

// P15.1, P15.2: against a plain row.
func TestPlain(t *testing.T) {
	for _, room := range []int{-3, 0, 1, 5, 20, 100} {
		c, p := cache.New(room), &plain{room: max(room, 0)}
		seed := uint32(room + 7)
		next := func(n int) int {
			seed = seed*1664525 + 1013904223
			return int(seed>>8) % n
		}
		for range 4000 {
			file, block := next(4), next(4)
			switch next(8) {
			case 0:
				if next(4) == 0 {
					c.Drop(file)
					p.items = slices.DeleteFunc(p.items, func(x item) bool { return x.file == file })
				}
			case 1, 2, 3:
				var keys []string
				for range next(4) {
					keys = append(keys, strings.Repeat("k", next(6)))
				}
				c.Put(file, block, keys)
				p.put(file, block, keys)
			default:
				keys, ok := c.Get(file, block)
				want, wok := p.get(file, block)
				if ok != wok || !slices.Equal(keys, want) {
					t.Fatalf("room %d: %q %t, want %q %t", room, keys, ok, want, wok)
				}
			}
			if c.Len() != len(p.items) || c.Used() != p.used() || c.Used() > max(room, 0) {
				t.Fatalf("room %d: %d items, %d bytes, want %d, %d", room, c.Len(), c.Used(), len(p.items), p.used())
			}
		}
	}
}

// P15.1: an item that is too great goes itself, behind all others.
func TestGreat(t *testing.T) {
	c := cache.New(3)
	c.Put(1, 1, nil)
	c.Put(1, 2, []string{"abc"})
	if c.Len() != 0 || c.Used() != 0 {
		t.Fatal(c.Len(), c.Used())
	}
	c.Put(1, 1, []string{"ab"})
	c.Put(1, 1, []string{"abc"})
	if _, ok := c.Get(1, 1); ok || c.Len() != 0 {
		t.Fatal("the one in its place is gone, too")
	}
	c.Put(-1, -2, []string{"", ""})
	if keys, ok := c.Get(-1, -2); !ok || len(keys) != 2 || c.Used() != 1 {
		t.Fatal(keys, ok)
	}
}

// P15.1: what is handed in and out.
func TestApart(t *testing.T) {
	c := cache.New(10)
	in := []string{"a", "b"}
	c.Put(1, 1, in)
	in[0] = "changed"
	out, _ := c.Get(1, 1)
	out[1] = "changed"
	if got, _ := c.Get(1, 1); !slices.Equal(got, []string{"a", "b"}) {
		t.Fatal(got)
	}
}

func TestNil(t *testing.T) {
	var c *cache.Cache
	c.Put(1, 1, []string{"a"})
	c.Drop(1)
	if keys, ok := c.Get(1, 1); ok || len(keys) != 0 || c.Len() != 0 || c.Used() != 0 {
		t.Fatal("a nil cache has something")
	}
}
