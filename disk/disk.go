// Package disk is layer 1: a stand-in for a disk that crashes.
package disk

import (
	"maps"
	"slices"

	"sentry/api"
)

// file is bytes, of which the first ones are safe.
type file struct {
	bytes []byte
	safe  int
}

// act is what was done to the directory: from stands for nothing any more, to for a file.
type act struct {
	from, to string
	file     *file
}

// do does an act to a directory.
func (a act) do(dir map[string]*file) {
	f := a.file
	if a.from != "" {
		f = dir[a.from]
		delete(dir, a.from)
	}
	if a.to != "" {
		dir[a.to] = f
	}
}

// Disk is files, by name.
type Disk struct {
	files map[string]*file
	safe  map[string]*file // the directory as it was when it was safe
	acts  []act            // what was done to it since
	room  int
	fuse  int
	down  bool
}

// New is an empty disk.
func New(cap int) *Disk {
	return &Disk{
		files: map[string]*file{},
		safe:  map[string]*file{},
		room:  min(max(cap, 0), api.MaxBytes),
		fuse:  -1,
	}
}

// Fuse says how many acts the disk still takes.
func (d *Disk) Fuse(n int) {
	if d != nil {
		d.fuse = n
	}
}

func isName(s string) bool {
	for _, c := range []byte(s) {
		small := 'a' <= c && c <= 'z'
		digit := '0' <= c && c <= '9'
		if !small && !digit && c != '.' && c != '-' {
			return false
		}
	}
	return len(s) >= 1 && len(s) <= api.MaxName
}

// ready tells why nothing can be done with these names, whatever it is.
func (d *Disk) ready(names ...string) api.Errno {
	if d == nil || d.down {
		return api.ErrDown
	}
	for _, s := range names {
		if !isName(s) {
			return api.ErrName
		}
	}
	return api.OK
}

// find is the file of a name that is there.
func (d *Disk) find(name string) (*file, api.Errno) {
	if e := d.ready(name); e != api.OK {
		return nil, e
	}
	f, ok := d.files[name]
	if !ok {
		return nil, api.ErrMissing
	}
	return f, api.OK
}

// burn takes an act off the fuse; at its end the disk goes down.
func (d *Disk) burn() api.Errno {
	if d.fuse == 0 {
		d.down = true
		return api.ErrDown
	}
	if d.fuse > 0 {
		d.fuse--
	}
	return api.OK
}

// turn does an act to the directory, and keeps it till the directory is safe.
func (d *Disk) turn(a act) api.Errno {
	if e := d.burn(); e != api.OK {
		return e
	}
	a.do(d.files)
	d.acts = append(d.acts, a)
	return api.OK
}

// Create lays an empty file.
func (d *Disk) Create(name string) api.Errno {
	if e := d.ready(name); e != api.OK {
		return e
	}
	if _, ok := d.files[name]; ok {
		return api.ErrExists
	}
	if len(d.files) >= api.MaxFiles {
		return api.ErrLong
	}
	return d.turn(act{to: name, file: &file{}})
}

// Append lays bytes behind a file's.
func (d *Disk) Append(name string, b []byte) api.Errno {
	f, e := d.find(name)
	if e != api.OK {
		return e
	}
	if d.Used()+len(b) > d.room {
		return api.ErrSpace
	}
	if e := d.burn(); e != api.OK {
		return e
	}
	f.bytes = append(f.bytes, b...)
	return api.OK
}

// Read is a file's bytes.
func (d *Disk) Read(name string) ([]byte, api.Errno) {
	f, e := d.find(name)
	if e != api.OK {
		return nil, e
	}
	return slices.Clone(f.bytes), api.OK
}

// Sync makes a file's bytes safe.
func (d *Disk) Sync(name string) api.Errno {
	f, e := d.find(name)
	if e != api.OK {
		return e
	}
	if e := d.burn(); e != api.OK {
		return e
	}
	f.safe = len(f.bytes)
	return api.OK
}

// SyncDir makes the directory safe.
func (d *Disk) SyncDir() api.Errno {
	if e := d.ready(); e != api.OK {
		return e
	}
	if e := d.burn(); e != api.OK {
		return e
	}
	d.settle(len(d.acts))
	return api.OK
}

// settle makes the first n acts safe, and forgets the others.
func (d *Disk) settle(n int) {
	for _, a := range d.acts[:n] {
		a.do(d.safe)
	}
	d.acts = nil
}

// Rename lets another name stand for a file.
func (d *Disk) Rename(from, to string) api.Errno {
	if e := d.ready(from, to); e != api.OK {
		return e
	}
	if _, ok := d.files[from]; !ok {
		return api.ErrMissing
	}
	return d.turn(act{from: from, to: to})
}

// Remove lets a name stand for no file.
func (d *Disk) Remove(name string) api.Errno {
	if _, e := d.find(name); e != api.OK {
		return e
	}
	return d.turn(act{from: name})
}

// List is all names, in order.
func (d *Disk) List() []string {
	if d.ready() != api.OK {
		return nil
	}
	return slices.Sorted(maps.Keys(d.files))
}

// Used is how many bytes the files have.
func (d *Disk) Used() int {
	if d.ready() != api.OK {
		return 0
	}
	n := 0
	for _, f := range d.files {
		n += len(f.bytes)
	}
	return n
}

// Crash lets go what isn't safe, but for what is kept.
func (d *Disk) Crash(keep []byte) {
	if d == nil {
		return
	}
	next := func(n int) int {
		if len(keep) == 0 {
			return 0
		}
		k := int(keep[0]) % (n + 1)
		keep = keep[1:]
		return k
	}
	d.settle(next(len(d.acts)))
	d.files = maps.Clone(d.safe)
	for _, name := range slices.Sorted(maps.Keys(d.files)) {
		f := d.files[name]
		f.safe += next(len(f.bytes) - f.safe)
		f.bytes = f.bytes[:f.safe:f.safe]
	}
	d.down, d.fuse = false, -1
}
