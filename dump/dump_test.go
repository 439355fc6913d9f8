package dump_test

import (
	"slices"
	"testing"

	"sentry/api"
	"sentry/disk"
	"sentry/dump"
	"sentry/service"
	"sentry/tuple"
	"sentry/worlds"
)

const sample = "doc:2#viewer@user:1 doc:1#viewer@user:1 doc:10#viewer@group:1#member doc:1#parent@folder:1 doc:1#viewer@user:1"

// P36.1: dumps to the letter.
func TestWrite(t *testing.T) {
	if got := dump.Write(nil); got != "dump 1\nend 0\n" {
		t.Errorf("%q", got)
	}
	l := append(worlds.Tuples(sample), api.Tuple{})
	want := "dump 1\ndoc:1#parent@folder:1\ndoc:1#viewer@user:1\ndoc:10#viewer@group:1#member\ndoc:2#viewer@user:1\nend 4\n"
	if got := dump.Write(l); got != want {
		t.Errorf("%q", got)
	}
	if l[0] != worlds.Tuples(sample)[0] || len(l) != 6 {
		t.Error("what was handed in is changed")
	}
}

// P36.1: what may not stand there, and where.
func TestRead(t *testing.T) {
	a, b := "doc:1#viewer@user:1\n", "doc:2#viewer@user:1\n"
	for s, want := range map[string]struct {
		line int
		e    api.Errno
	}{
		"":                                   {1, api.ErrShort},
		"dump 1":                             {1, api.ErrShort},
		"x":                                  {1, api.ErrShort},
		"\n":                                 {1, api.ErrForm},
		"dump 2\nend 0\n":                    {1, api.ErrForm},
		"dump 1 \nend 0\n":                   {1, api.ErrForm},
		"end 0\n":                            {1, api.ErrForm},
		"x\ny":                               {1, api.ErrForm},
		"dump 1\n":                           {2, api.ErrShort},
		"dump 1\nend 0":                      {2, api.ErrShort},
		"dump 1\nx":                          {2, api.ErrShort},
		"dump 1\nx\n":                        {2, api.ErrForm},
		"dump 1\n\nend 0\n":                  {2, api.ErrForm},
		"dump 1\nend 1\n":                    {2, api.ErrForm},
		"dump 1\nend 00\n":                   {2, api.ErrForm},
		"dump 1\nend  0\n":                   {2, api.ErrForm},
		"dump 1\nend 0 \n":                   {2, api.ErrForm},
		"dump 1\nend\n":                      {2, api.ErrForm},
		"dump 1\r\nend 0\n":                  {1, api.ErrForm},
		"dump 1\nend 0\n\n":                  {3, api.ErrForm},
		"dump 1\nend 0\nx":                   {3, api.ErrForm},
		"dump 1\nend 0\nend 0\n":             {3, api.ErrForm},
		"dump 1\n" + a:                       {3, api.ErrShort},
		"dump 1\n" + a + "end 0\n":           {3, api.ErrForm},
		"dump 1\n" + a + b + "end 2":         {4, api.ErrShort},
		"dump 1\n" + a + b + "end 1\n":       {4, api.ErrForm},
		"dump 1\n" + b + a + "end 2\n":       {3, api.ErrOrder},
		"dump 1\n" + a + a + "end 2\n":       {3, api.ErrOrder},
		"dump 1\n" + b + a:                   {3, api.ErrOrder},
		"dump 1\n" + a + " " + b + "end 2\n": {3, api.ErrForm},
		"dump 1\n" + a + "dump 1\n" + b:      {3, api.ErrForm},
		"dump 1\nend 0\n" + a:                {3, api.ErrForm},
		"dump 1\n" + a + b + "end 2\n":       {0, api.OK},
		"dump 1\nend 0\n":                    {0, api.OK},
	} {
		l, line, e := dump.Read(s)
		if line != want.line || e != want.e || e != api.OK && len(l) != 0 || e == api.OK && dump.Write(l) != s {
			t.Errorf("%q: %v at %d, %d", s, l, line, e)
		}
	}
}

// P36.2: what is written is read.
func TestThereAndBack(t *testing.T) {
	for seed := range worlds.Draw(40) {
		d := seed*11 + 1
		l := d.Tuples(d.Next(60))
		got, line, e := dump.Read(dump.Write(l))
		slices.SortFunc(l, tuple.Cmp)
		l = slices.Compact(l)
		if e != api.OK || line != 0 || !slices.Equal(got, l) {
			t.Fatalf("%v: %v %d %d", l, got, line, e)
		}
		text := dump.Write(l)
		for i := range text {
			if l, _, e := dump.Read(text[:i]); e != api.ErrShort || len(l) != 0 {
				t.Fatalf("cut at %d: %d", i, e)
			}
		}
	}
}

func open(t *testing.T, schema string) (*service.Service, *disk.Disk) {
	t.Helper()
	d := disk.New(1 << 22)
	s, e := service.Open(d, api.Config{Schema: schema, Most: 100, Setup: api.Setup{Split: 300}})
	if e != api.OK {
		t.Fatal(e)
	}
	return s, d
}

// P36.1, P36.2: out of a service, and into another.
func TestSaveLoad(t *testing.T) {
	schema := "type user\ntype folder\ntype group\nmember = this\ntype doc\nviewer = this\nparent = this"
	s, _ := open(t, schema)
	var writes []api.Write
	for _, x := range worlds.Tuples(sample)[:4] {
		writes = append(writes, api.Write{Tuple: x})
	}
	s.Write(writes, nil)
	s.Write([]api.Write{{Del: true, Tuple: writes[0].Tuple}}, nil)
	for rev, n := range map[uint64]int{0: 0, 1: 4, 2: 3} {
		text, e := dump.Save(s, rev)
		l, _ := s.Read(api.Filter{}, rev)
		if e != api.OK || text != dump.Write(l) || len(l) != n {
			t.Fatal(rev, text, e)
		}
		for _, each := range []int{1, 2, 3, api.MaxBatch} {
			to, _ := open(t, schema)
			done, e := dump.Load(to, text, each)
			if e != api.OK || done != n || to.Head() != uint64((n+each-1)/each) {
				t.Fatal(rev, each, done, e)
			}
			if again, e := dump.Save(to, to.Head()); e != api.OK || again != text {
				t.Fatal(again, e)
			}
		}
	}
	if text, e := dump.Save(s, 3); e != api.ErrRev || text != "" {
		t.Error(text, e)
	}
	if text, e := dump.Save(nil, 0); e != api.ErrRev || text != "" {
		t.Error(text, e)
	}
}

// P36.1: what can't be loaded.
func TestLoadErrors(t *testing.T) {
	text := dump.Write(worlds.Tuples("doc:1#viewer@user:1 doc:2#viewer@user:1 doc:3#owner@user:1 doc:4#viewer@user:1"))
	schema := "type user\ntype doc\nviewer = this"
	for _, c := range []struct {
		text string
		each int
		done int
		head uint64
		e    api.Errno
	}{
		{"x", 0, 0, 0, api.ErrShort}, {"x\n", 5, 0, 0, api.ErrForm}, {text, 0, 0, 0, api.ErrArg}, {text, -1, 0, 0, api.ErrArg}, {text, api.MaxBatch + 1, 0, 0, api.ErrArg},
		{text, 1, 2, 2, api.ErrMissing}, {text, 2, 2, 1, api.ErrMissing}, {text, 3, 0, 0, api.ErrMissing}, {text, 64, 0, 0, api.ErrMissing},
	} {
		s, _ := open(t, schema)
		if done, e := dump.Load(s, c.text, c.each); done != c.done || e != c.e || s.Head() != c.head {
			t.Errorf("%.10q by %d: %d %d", c.text, c.each, done, e)
		}
	}
	s, d := open(t, schema)
	d.Fuse(4)
	good := dump.Write(worlds.Tuples("doc:1#viewer@user:1 doc:2#viewer@user:1 doc:3#viewer@user:1"))
	if done, e := dump.Load(s, good, 1); done != 2 || e != api.ErrStore {
		t.Error(done, e)
	}
	if done, e := dump.Load(nil, good, 1); done != 0 || e != api.ErrStore {
		t.Error(done, e)
	}
}
