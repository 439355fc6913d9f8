package store

import (
	"slices"
	"sort"

	"sentry/api"
	"sentry/cache"
	"sentry/iter"
	"sentry/table"
)

// shelf is a table whose blocks are kept once they were read; the one that was read last stays at hand.
type shelf struct {
	num   int
	table *table.Table
	cache *cache.Cache
	row   []string
}

// block is a block's keys, one at least.
func (x *shelf) block(i int) ([]string, api.Errno) {
	if keys, ok := x.cache.Get(x.num, i); ok {
		return keys, api.OK
	}
	keys, e := x.table.Block(i)
	if e == api.OK && len(keys) == 0 {
		e = api.ErrForm
	}
	if e != api.OK {
		return nil, e
	}
	x.cache.Put(x.num, i, keys)
	return keys, api.OK
}

// Seek is the first key that isn't less.
func (x *shelf) Seek(key string) (string, bool, api.Errno) {
	if !x.holds(key) {
		if e := x.find(key); e != api.OK {
			return "", false, e
		}
	}
	at, _ := slices.BinarySearch(x.row, key)
	if at == len(x.row) {
		return "", false, api.OK
	}
	return x.row[at], true, api.OK
}

// holds asks whether a key would stand among those of the block at hand.
func (x *shelf) holds(key string) bool {
	n := len(x.row)
	return n > 0 && x.row[0] <= key && key <= x.row[n-1]
}

// find takes the first block to hand whose keys aren't all less, or the last one.
func (x *shelf) find(key string) api.Errno {
	wrong := api.OK
	last := x.table.Blocks() - 1
	i := sort.Search(last, func(i int) bool {
		keys, e := x.block(i)
		if e != api.OK {
			wrong = e
		}
		return e != api.OK || keys[len(keys)-1] >= key
	})
	if wrong != api.OK {
		return wrong
	}
	x.row, wrong = x.block(i)
	return wrong
}

// shelf is a table's shelf, with nothing at hand yet.
func (s *Store) shelf(num int) *shelf {
	return &shelf{num: num, table: s.tables[num], cache: s.cache}
}

// run is tables of one level, whose keys stand one table behind the other; the shelf that was asked last stays at hand.
type run struct {
	tables []api.Table
	open   func(num int) *shelf
	now    *shelf
}

// Seek is the first key that isn't less.
func (r *run) Seek(key string) (string, bool, api.Errno) {
	i := sort.Search(len(r.tables), func(i int) bool { return r.tables[i].Last >= key })
	if i == len(r.tables) {
		return "", false, api.OK
	}
	if num := r.tables[i].Num; r.now == nil || r.now.num != num {
		r.now = r.open(num)
	}
	return r.now.Seek(key)
}

// sources are what isn't in tables, and the tables that count: those of level 0 each for itself, of another level together.
func (s *Store) sources(fresh iter.Source, counts func(t *table.Table) bool) []iter.Source {
	l := []iter.Source{fresh}
	var runs [api.MaxLevel]run
	for _, t := range s.version.Tables {
		switch {
		case !counts(s.tables[t.Num]):
		case t.Level == 0:
			l = append(l, s.shelf(t.Num))
		default:
			runs[t.Level].tables = append(runs[t.Level].tables, t)
		}
	}
	for i := range runs {
		if len(runs[i].tables) > 0 {
			runs[i].open = s.shelf
			l = append(l, &runs[i])
		}
	}
	return l
}
