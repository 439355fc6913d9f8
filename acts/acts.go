// Package acts does acts of a disk one behind the other, up to the first one that goes wrong.
package acts

import (
	"sentry/api"
	"sentry/disk"
)

// Step is one of the things that are done one behind the other.
type Step func() api.Errno

// InOrder does steps up to the first one that answers an error.
func InOrder(steps ...Step) api.Errno {
	for _, do := range steps {
		if e := do(); e != api.OK {
			return e
		}
	}
	return api.OK
}

// Create makes a file without bytes.
func Create(d *disk.Disk, name string) Step {
	return func() api.Errno { return d.Create(name) }
}

// Add puts bytes behind a file's, and makes them safe.
func Add(d *disk.Disk, name string, b []byte) Step {
	return func() api.Errno {
		return InOrder(
			func() api.Errno { return d.Append(name, b) },
			func() api.Errno { return d.Sync(name) },
		)
	}
}

// Lay makes a file of bytes, and its bytes safe.
func Lay(d *disk.Disk, name string, b []byte) Step {
	return func() api.Errno { return InOrder(Create(d, name), Add(d, name, b)) }
}
