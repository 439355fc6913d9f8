package console_test

import (
	"slices"
	"strconv"
	"strings"
	"testing"

	"sentry/api"
	"sentry/cond"
	"sentry/console"
	"sentry/disk"
	"sentry/files"
	"sentry/service"
)

func open(t *testing.T, most int) (*console.Console, *service.Service, *disk.Disk) {
	t.Helper()
	when := func(s string) api.Cond { c, _, _ := cond.Parse(s); return c }
	d := disk.New(1 << 22)
	s, e := service.Open(d, api.Config{
		Schema: "type user\ntype group\nmember = this\ntype doc\nowner = this\nviewer = this | owner\neditor = owner",
		Params: []api.Param{{Name: "day", Kind: api.Num}, {Name: "on", Kind: api.Flag}, {Name: "who", Kind: api.Text}},
		Gates:  []api.Gate{{Ref: api.Ref{Type: "doc", Rel: "owner"}, When: when("day < 0 or on and who = 'me,too'")}},
		Setup:  api.Setup{Split: 100, Bits: 10},
		Most:   most,
	})
	if e != api.OK {
		t.Fatal(e)
	}
	return console.New(s), s, d
}

const ready = "set day 0\nset on true\nset who 'me,too'\n"

// told asks line by line: each pair is a line, and its answer ("; " between lines).
func told(t *testing.T, c *console.Console, pairs ...string) {
	t.Helper()
	for i := 0; i < len(pairs); i += 2 {
		want := strings.ReplaceAll(pairs[i+1], "; ", "\n")
		if want != "" {
			want += "\n"
		}
		if got := c.Line(pairs[i]); got != want {
			t.Errorf("%q: %q, want %q", pairs[i], got, want)
		}
	}
}

// P40.1: each word.
func TestLines(t *testing.T) {
	c, s, _ := open(t, 100)
	told(t, c, "head", "head 0 floor 0")
	if got := c.Script(ready); got != "ok\nok\nok\n" {
		t.Fatalf("%q", got)
	}
	told(t, c,
		"", "", "   ", "",
		"write +doc:1#viewer@user:2 +doc:1#viewer@group:1#member +doc:2#owner@user:2", "ok 1",
		"  write   +group:1#member@user:3  ?doc:1#viewer@user:2 -doc:2#owner@user:2 !doc:9#viewer@user:2 ", "ok 2",
		"write +doc:3#owner@user:3 +doc:1#owner@user:1", "ok 3",
		"head", "head 3 floor 0",
		"check doc:1#viewer@user:2 head", "yes",
		"check doc:1#viewer@user:3 1", "no",
		"check doc:1#viewer@user:3 2", "yes",
		"check doc:1#viewer@user:3 002", "yes",
		"check doc:1#viewer@group:1#member head", "yes",
		"check doc:1#none@user:3 head", "no",
		"why doc:1#viewer@user:3 1", "no",
		"why doc:1#viewer@user:3 head", "yes",
		"read doc head", "doc:1#owner@user:1; doc:1#viewer@group:1#member; doc:1#viewer@user:2; doc:3#owner@user:3",
		"read * 1", "doc:1#viewer@group:1#member; doc:1#viewer@user:2; doc:2#owner@user:2",
		"read group head", "group:1#member@user:3",
		"read group 1", "",
		"read none head", "",
		"read * 0", "",
		"who doc:1#viewer user head", "user:1; user:2; user:3",
		"who doc:1#viewer user 1", "user:2",
		"who doc:1#viewer group head", "",
		"who doc:1#none user head", "",
		"what user:3 doc viewer head", "doc:1; doc:3",
		"what user:3 doc editor head", "doc:3",
		"what group:1#member doc viewer head", "doc:1",
		"what user:3 none viewer head", "",
		"what user:3 doc none 2", "",
		"changes 1 head", "2 -doc:2#owner@user:2; 2 +group:1#member@user:3; 3 +doc:1#owner@user:1; 3 +doc:3#owner@user:3",
		"changes 3 3", "",
		"changes head head", "",
		"tidy 1 0 0", "ok", "tidy 2 0 5", "ok", "tidy 3 9 9", "ok",
		"floor 2", "ok 2",
		"floor 2", "ok 2",
		"head", "head 3 floor 2",
		"floor head", "ok 3",
		"head", "head 3 floor 3",
	)
	if s.Floor() != 3 {
		t.Error(s.Floor())
	}
}

// P40.1: arguments.
func TestSet(t *testing.T) {
	c, _, _ := open(t, 100)
	told(t, c, "write +doc:1#owner@user:1", "ok 1", "check doc:1#owner@user:1 1", "error 4", "why doc:1#owner@user:1 1", "error 4", "who doc:1#owner user 1", "error 4", "what user:1 doc owner 1", "error 4", "read * 1", "doc:1#owner@user:1", "changes 0 1", "1 +doc:1#owner@user:1")
	c.Script(ready)
	told(t, c,
		"check doc:1#owner@user:1 1", "yes",
		"set on false", "ok", "check doc:1#owner@user:1 1", "no", "why doc:1#owner@user:1 1", "no", "who doc:1#owner user 1", "", "what user:1 doc owner 1", "",
		"set day -1", "ok", "check doc:1#owner@user:1 1", "yes", "who doc:1#owner user 1", "user:1",
		"set day -0", "ok", "check doc:1#owner@user:1 1", "no",
		"set day 00", "ok", "check doc:1#owner@user:1 1", "no",
		"set day 999999999999999", "ok", "set day -999999999999999", "ok", "check doc:1#owner@user:1 1", "yes",
		"set day 0", "ok", "set on true", "ok", "set who ''", "ok", "check doc:1#owner@user:1 1", "no",
		"set who 'me,too'", "ok", "check doc:1#owner@user:1 1", "yes",
		"set day true", "ok", "check doc:1#owner@user:1 1", "error 1", "set day '0'", "ok", "check doc:1#owner@user:1 1", "error 1", "set day 1", "ok", "check doc:1#owner@user:1 1", "yes",
		"set more 1", "ok", "check doc:1#owner@user:1 1", "error 4",
	)
	for _, v := range []string{"1000000000000000", "-1000000000000000", "--1", "-", "+1", "1.5", "x", "True", "'", "'a", "a'", "\"a\"", "1a", "''' '"} {
		told(t, c, "set day "+v, "error 9")
	}
}

// P40.1: lines that are none.
func TestForm(t *testing.T) {
	c, s, _ := open(t, 100)
	c.Script(ready + "write +doc:1#viewer@user:2")
	for _, line := range []string{
		"x", "Head", "head 1", "head head", "heads", "write+doc:1#viewer@user:1", "\thead", "head\t", "head\n", "?",
		"write doc:1#viewer@user:1", "write +", "write *doc:1#viewer@user:1", "write + doc:1#viewer@user:1", "write +doc:1#viewer", "write +doc:1#viewer@user:1 x", "write +Doc:1#viewer@user:1", "write +doc:1#viewer@user:1\t",
		"check", "check doc:1#viewer@user:2", "check doc:1#viewer@user:2 1 1", "check doc:1#viewer 1", "check doc:1#viewer@user:2 x", "check doc:1#viewer@user:2 -1", "check doc:1#viewer@user:2 +1", "check doc:1#viewer@user:2 Head", "check doc:1#viewer@user:2 1234567890123456789", "check 1 doc:1#viewer@user:2",
		"why", "why doc:1#viewer@user:2", "why doc:1#viewer@user:2 1 1", "why doc:1#viewer@ 1", "why doc:1#viewer@user:2 1x",
		"read", "read doc", "read doc 1 1", "read doc x", "read * *",
		"who", "who doc:1#viewer user", "who doc:1#viewer user 1 1", "who doc:1 user 1", "who doc:1#viewer@user:2 user 1", "who doc#viewer user 1", "who doc:1#viewer user x",
		"what", "what user:2 doc viewer", "what user:2 doc viewer 1 1", "what user doc viewer 1", "what user:2# doc viewer 1", "what doc:1#viewer@user:2 doc viewer 1", "what user:2 doc viewer x",
		"changes", "changes 1", "changes 1 1 1", "changes x 1", "changes 1 x",
		"floor", "floor x", "floor 1 1", "floor -1",
		"set", "set day", "set day 1 1", "set who 'a b'",
		"tidy", "tidy 1", "tidy 1 0", "tidy 1 0 0 0", "tidy x 0 0", "tidy 1 -1 0", "tidy 1 0 head", "tidy 1234567890123456789 0 0",
	} {
		told(t, c, line, "error 9")
	}
	if s.Head() != 1 || s.Floor() != 0 {
		t.Error("a line that is none did something")
	}
}

// P40.1: what the service refuses.
func TestErrors(t *testing.T) {
	c, _, d := open(t, 2)
	c.Script(ready + "write +doc:1#viewer@user:2")
	told(t, c,
		"write", "error 1", "write ?doc:1#viewer@user:2", "error 1",
		"write +doc:1#viewer@none:2", "error 4", "write +doc:1#editor@user:2", "error 9", "write +doc:2#viewer@user:2 -doc:2#viewer@user:2", "error 3", "write +doc:2#viewer@user:2 !doc:1#viewer@user:2", "error 14", "write +doc:2#viewer@user:2 ?doc:2#viewer@user:2", "error 14",
		"check doc:1#viewer@user:2 2", "error 12", "why doc:1#viewer@user:2 999999999999999999", "error 12", "read * 2", "error 12", "who doc:1#viewer user 2", "error 12", "what user:2 doc viewer 2", "error 12", "changes 0 2", "error 12", "changes 1 0", "error 12", "floor 2", "error 12",
		"tidy 0 0 0", "error 1", "tidy 4 0 0", "error 1", "tidy 2 4 0", "error 1",
		"head", "head 1 floor 0",
		"write +doc:1#viewer@group:1#member", "ok 2",
		"check doc:1#viewer@user:2 2", "error 10", "why doc:1#viewer@user:2 2", "error 10", "who doc:1#viewer user 2", "error 10", "what user:2 doc viewer 2", "error 10",
		"check doc:1#viewer@user:2 1", "yes",
	)
	d.Fuse(0)
	told(t, c, "write +doc:2#viewer@user:2", "error 13", "write", "error 13", "tidy 1 0 0", "error 13", "floor 1", "error 13", "read * 1", "doc:1#viewer@user:2", "head", "head 2 floor 0")
}

// P40.1: numbers of more than one digit; which table is tidied.
func TestNumbers(t *testing.T) {
	c, _, d := open(t, 100)
	for i := range 12 {
		c.Script("write +doc:" + strconv.Itoa(i) + "#viewer@user:1\ntidy 1 0 0")
	}
	told(t, c, "write -doc:0#viewer@user:1", "ok 13", "head", "head 13 floor 0", "floor 11", "ok 11", "head", "head 13 floor 11", "changes 11 head", "12 +doc:11#viewer@user:1; 13 -doc:0#viewer@user:1")
	before, _, _ := files.Load(d)
	told(t, c, "tidy 2 0 3", "ok")
	after, _, _ := files.Load(d)
	for i, x := range before.Tables {
		stays := slices.ContainsFunc(after.Tables, func(y api.Table) bool { return x.Num == y.Num })
		if stays != (i != 3) {
			t.Errorf("table %d stays: %t", i, stays)
		}
	}
}

// P40.1: scripts.
func TestScript(t *testing.T) {
	c, _, _ := open(t, 100)
	for text, want := range map[string]string{"": "", "\n\n": "", "head": "head 0 floor 0\n", "head\nx\n\n head \n": "head 0 floor 0\nerror 9\nhead 0 floor 0\n", "head\r\nhead": "error 9\nhead 0 floor 0\n"} {
		if got := c.Script(text); got != want {
			t.Errorf("%q: %q", text, got)
		}
	}
	other, _, _ := open(t, 100)
	c.Script(ready + "write +doc:1#viewer@user:1")
	told(t, other, "head", "head 0 floor 0", "write +doc:1#viewer@user:1", "ok 1", "check doc:1#viewer@user:1 1", "error 4")
}

func TestNil(t *testing.T) {
	var c *console.Console
	told(t, c, "head", "error 6", "x", "error 6", "", "", "  ", "")
	if got := c.Script("head\n\nx"); got != "error 6\nerror 6\n" {
		t.Errorf("%q", got)
	}
	none := console.New(nil)
	told(t, none, "head", "head 0 floor 0", "write +doc:1#viewer@user:1", "error 13", "check doc:1#viewer@user:1 head", "error 12", "read * 0", "error 12", "floor 0", "error 13", "tidy 1 0 0", "error 13", "x", "error 9", "set day 1", "ok")
}
