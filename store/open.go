package store

import (
	"math"
	"slices"

	"sentry/acts"
	"sentry/api"
	"sentry/cache"
	"sentry/disk"
	"sentry/edit"
	"sentry/files"
	"sentry/skip"
	"sentry/table"
	"sentry/wal"
)

// Open opens a store.
func Open(d *disk.Disk, o api.Setup) (*Store, api.Errno) {
	s := &Store{
		disk:   d,
		setup:  api.Setup{Split: max(o.Split, 1), Bits: max(o.Bits, 1), Draws: slices.Clone(o.Draws)},
		tables: map[int]*table.Table{},
		cache:  cache.New(room),
	}
	s.fresh = fresh{skip.New(s.setup.Draws)}
	if e := acts.InOrder(s.load, s.begin); e != api.OK {
		return nil, e
	}
	return s, api.OK
}

// load reads the history that the files tell; what doesn't count is removed only when all could be read.
func (s *Store) load() api.Errno {
	if _, e := s.disk.Read("current"); e == api.ErrMissing {
		s.version = api.Version{Next: 1}
		return files.Clean(s.disk, api.Version{Log: math.MaxInt}, 0)
	}
	v, num, e := files.Load(s.disk)
	if e != api.OK {
		return e
	}
	s.version, s.manifest, s.head, s.floor = v, num, v.Head, v.Floor
	return acts.InOrder(s.shelve, s.replay, func() api.Errno { return files.Clean(s.disk, v, num) })
}

// shelve opens the tables that count.
func (s *Store) shelve() api.Errno {
	for _, t := range s.version.Tables {
		b, e := s.disk.Read(files.Name('t', t.Num))
		if e != api.OK {
			return e
		}
		if s.tables[t.Num], e = table.Open(b); e != api.OK {
			return e
		}
	}
	return api.OK
}

// replay takes up the logs' commits, as long as they follow one another.
func (s *Store) replay() api.Errno {
	var logs []int
	for _, name := range s.disk.List() {
		if kind, n, _ := files.Number(name); kind == 'w' && n >= s.version.Log {
			logs = append(logs, n)
		}
	}
	slices.Sort(logs)
	for _, n := range logs {
		b, e := s.disk.Read(files.Name('w', n))
		if e != api.OK {
			return e
		}
		if !s.follow(b) {
			return api.OK
		}
	}
	return api.OK
}

// follow takes up a log's commits, and tells whether none was out of turn.
func (s *Store) follow(b []byte) bool {
	commits, _ := wal.Replay(b)
	for _, c := range commits {
		if c.Rev > s.head+1 {
			return false
		}
		if c.Rev == s.head+1 {
			s.fresh.put(c)
			s.head = c.Rev
		}
	}
	return true
}

// unused is a number that no file has.
func (s *Store) unused() int {
	next := s.version.Next
	for _, name := range s.disk.List() {
		_, n, _ := files.Number(name)
		next = max(next, n+1)
	}
	return next
}

// begin makes a table of what the logs told, and begins a new log and a new manifest.
func (s *Store) begin() api.Errno {
	next := s.unused()
	c := change{}
	var steps []acts.Step
	if s.fresh.Len() > 0 {
		b, e := s.build(next, 0, s.fresh.All())
		if e != api.OK {
			return e
		}
		c.add(b)
		steps = append(steps, b.lay(s.disk))
		next++
	}
	c.log = next
	c.edit.Head, c.edit.Log, c.edit.Next = s.head, c.log, c.log+1
	v, e := edit.Apply(s.version, c.edit)
	if e != api.OK {
		return e
	}
	steps = append(steps,
		acts.Create(s.disk, files.Name('w', c.log)),
		func() api.Errno { return s.start(c, v) },
		func() api.Errno { return files.Clean(s.disk, s.version, s.manifest) },
	)
	return acts.InOrder(steps...)
}

// start begins a manifest with a version, to which a change led.
func (s *Store) start(c change, v api.Version) api.Errno {
	w, num, e := files.Start(s.disk, v)
	if e != api.OK {
		return e
	}
	s.manifest = num
	return s.turn(c, w)
}
