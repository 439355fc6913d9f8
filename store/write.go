package store

import (
	"slices"

	"sentry/acts"
	"sentry/api"
	"sentry/disk"
	"sentry/edit"
	"sentry/files"
	"sentry/skip"
	"sentry/table"
)

// built is a table that comes: what a version says of it, and its bytes.
type built struct {
	table api.Table
	bytes []byte
}

// lay makes the table's file, and its bytes safe.
func (b built) lay(d *disk.Disk) acts.Step {
	return acts.Lay(d, files.Name('t', b.table.Num), b.bytes)
}

// build makes a table of keys.
func (s *Store) build(num, level int, keys []string) (built, api.Errno) {
	b, e := table.Build(keys, s.setup.Split, s.setup.Bits)
	if e != api.OK {
		return built{}, e
	}
	t := api.Table{Num: num, Level: level, Size: len(b), First: keys[0], Last: keys[len(keys)-1]}
	return built{table: t, bytes: b}, api.OK
}

// change is how the store's files change: an edit, tables that come with it, and a new log, if there is one.
type change struct {
	edit   api.Edit
	tables []built
	log    int
}

// add adds a table that comes.
func (c *change) add(b built) {
	c.edit.Add = append(c.edit.Add, b.table)
	c.tables = append(c.tables, b)
}

// install lays what comes, lets the edit count, and then removes what doesn't count any more.
func (s *Store) install(c change, v api.Version) api.Errno {
	var steps []acts.Step
	for _, b := range c.tables {
		steps = append(steps, b.lay(s.disk))
	}
	if c.log > 0 {
		steps = append(steps, acts.Create(s.disk, files.Name('w', c.log)))
	}
	if len(steps) > 0 {
		steps = append(steps, s.disk.SyncDir)
	}
	steps = append(steps,
		func() api.Errno { return files.Add(s.disk, s.manifest, c.edit) },
		func() api.Errno { return s.turn(c, v) },
		func() api.Errno { return files.Clean(s.disk, s.version, s.manifest) },
	)
	return acts.InOrder(steps...)
}

// turn lets the version count that a change leads to.
func (s *Store) turn(c change, v api.Version) api.Errno {
	for _, b := range c.tables {
		t, e := table.Open(b.bytes)
		if e != api.OK {
			return e
		}
		s.tables[b.table.Num] = t
	}
	for _, n := range c.edit.Drop {
		delete(s.tables, n)
		s.cache.Drop(n)
	}
	if c.log > 0 {
		s.log = c.log
		s.fresh = fresh{skip.New(s.setup.Draws)}
	}
	s.version = v
	return api.OK
}

// flush makes a table of what isn't in one, and lets an edit count with it.
func (s *Store) flush(x api.Edit) api.Errno {
	c := change{edit: x}
	if s.fresh.Len() > 0 {
		b, e := s.build(s.version.Next, 0, s.fresh.All())
		if e != api.OK {
			return e
		}
		c.add(b)
		c.log = s.version.Next + 1
		c.edit.Head, c.edit.Log, c.edit.Next = s.head, c.log, c.log+1
	}
	v, e := edit.Apply(s.version, c.edit)
	if e != api.OK {
		return e
	}
	return s.install(c, v)
}

// Flush makes a table of what isn't in one.
func (s *Store) Flush() api.Errno {
	if s.stopped() {
		return api.ErrStore
	}
	if s.fresh.Len() == 0 {
		return api.OK
	}
	return s.settle(s.flush(api.Edit{}))
}

// SetFloor lets go what is older.
func (s *Store) SetFloor(f uint64) api.Errno {
	switch {
	case s == nil:
		return api.ErrStore
	case !s.asked(f):
		return api.ErrRev
	case f == s.floor:
		return api.OK
	case s.down:
		return api.ErrStore
	}
	x := api.Edit{Floor: f}
	e := api.OK
	if f > s.version.Head {
		// A version's floor isn't greater than what its tables have.
		e = s.flush(x)
	} else {
		v, _ := edit.Apply(s.version, x)
		e = s.install(change{edit: x}, v)
	}
	if e == api.OK {
		s.floor = f
	}
	return s.settle(e)
}

// Replace lets tables go, and others come.
func (s *Store) Replace(level int, rows [][]string, drop []int) api.Errno {
	if s.stopped() {
		return api.ErrStore
	}
	c := change{edit: api.Edit{Drop: slices.Clone(drop), Next: s.version.Next + len(rows)}}
	for i, row := range rows {
		b, e := s.build(s.version.Next+i, level, row)
		if e != api.OK {
			return api.ErrArg
		}
		c.add(b)
	}
	v, e := edit.Apply(s.version, c.edit)
	if e != api.OK {
		return api.ErrArg
	}
	if len(rows) == 0 && len(drop) == 0 {
		return api.OK
	}
	return s.settle(s.install(c, v))
}
