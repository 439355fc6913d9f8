package worlds_test

import (
	"testing"

	"sentry/api"
	"sentry/rules"
	"sentry/worlds"
)

// The schemas may be, and what is told of a world that can be seen through is right.
func TestWorlds(t *testing.T) {
	for _, text := range worlds.Texts() {
		if s := worlds.Schema(text); rules.Check(s) != api.OK || len(s.Types) != 4 {
			t.Fatal(text)
		}
	}
	w := worlds.World{Schema: worlds.Schema(worlds.Texts()[0]), Tuples: worlds.Tuples("doc:1#viewer@group:1#member group:1#member@user:1 doc:1#parent@folder:1 folder:1#owner@user:2 no-tuple")}
	for ask, want := range map[string]int{"user:1": 2, "user:2": 3, "user:3": 0, "group:1#member": 1} {
		if got := w.In(worlds.Sub(ask))[worlds.Point("doc:1#viewer")]; got != want {
			t.Errorf("%s: %d", ask, got)
		}
	}
	w.Shut = []api.Ref{{Type: "group", Rel: "member"}}
	if w.Has(api.Ask{Point: worlds.Point("doc:1#viewer"), Sub: worlds.Sub("user:1")}) {
		t.Error("shut")
	}
}
