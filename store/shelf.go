package store

import (
	"slices"
	"sort"

	"sentry/api"
	"sentry/cache"
	"sentry/table"
)

// shelf is a table whose blocks are kept once they were read; the one that was read last stays at hand.
type shelf struct {
	num   int
	table *table.Table
	cache *cache.Cache
	row   []string
}

// block is a block's keys, one at least.
func (x *shelf) block(i int) ([]string, api.Errno) {
	if keys, ok := x.cache.Get(x.num, i); ok {
		return keys, api.OK
	}
	keys, e := x.table.Block(i)
	if e == api.OK && len(keys) == 0 {
		e = api.ErrForm
	}
	if e != api.OK {
		return nil, e
	}
	x.cache.Put(x.num, i, keys)
	return keys, api.OK
}

// Seek is the first key that isn't less.
func (x *shelf) Seek(key string) (string, bool, api.Errno) {
	if !x.holds(key) {
		if e := x.find(key); e != api.OK {
			return "", false, e
		}
	}
	at, _ := slices.BinarySearch(x.row, key)
	if at == len(x.row) {
		return "", false, api.OK
	}
	return x.row[at], true, api.OK
}

// holds asks whether a key would stand among those of the block at hand.
func (x *shelf) holds(key string) bool {
	n := len(x.row)
	return n > 0 && x.row[0] <= key && key <= x.row[n-1]
}

// find takes the first block to hand whose keys aren't all less, or the last one.
func (x *shelf) find(key string) api.Errno {
	wrong := api.OK
	last := x.table.Blocks() - 1
	i := sort.Search(last, func(i int) bool {
		keys, e := x.block(i)
		if e != api.OK {
			wrong = e
		}
		return e != api.OK || keys[len(keys)-1] >= key
	})
	if wrong != api.OK {
		return wrong
	}
	x.row, wrong = x.block(i)
	return wrong
}
