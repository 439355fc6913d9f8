package acts_test

import (
	"testing"

	"sentry/acts"
	"sentry/api"
	"sentry/disk"
)

func TestInOrder(t *testing.T) {
	done := ""
	step := func(name string, e api.Errno) acts.Step {
		return func() api.Errno { done += name; return e }
	}
	if e := acts.InOrder(); e != api.OK {
		t.Error(e)
	}
	if e := acts.InOrder(step("a", api.OK), step("b", api.OK)); e != api.OK || done != "ab" {
		t.Error(e, done)
	}
	if e := acts.InOrder(step("c", api.OK), step("d", api.ErrSum), step("e", api.ErrForm)); e != api.ErrSum || done != "abcd" {
		t.Error(e, done)
	}
}

func TestLay(t *testing.T) {
	for fuse := range 4 {
		d := disk.New(100)
		d.SyncDir()
		d.Fuse(fuse)
		e := acts.Lay(d, "a", []byte("xyz"))()
		if want := []api.Errno{api.ErrDown, api.ErrDown, api.ErrDown, api.OK}[fuse]; e != want {
			t.Fatal(fuse, e)
		}
		d.Crash([]byte{1})
		b, e := d.Read("a")
		if want := []api.Errno{api.ErrMissing, api.OK, api.OK, api.OK}[fuse]; e != want || (string(b) == "xyz") != (fuse == 3) {
			t.Fatal(fuse, string(b), e)
		}
	}
	d := disk.New(100)
	if acts.Lay(d, "a", nil)() != api.OK || acts.Lay(d, "a", nil)() != api.ErrExists || acts.Add(d, "a", []byte("x"))() != api.OK || acts.Add(d, "b", nil)() != api.ErrMissing || acts.Create(d, "b")() != api.OK {
		t.Fatal("acts")
	}
}
