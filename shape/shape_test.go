package shape_test

import (
	"testing"

	"sentry/api"
	"sentry/shape"
)

func sample() api.Rule {
	return api.Rule{Kind: api.Union, Parts: []api.Rule{{Kind: api.This}, {Kind: api.Both, Parts: []api.Rule{{Kind: api.Same, A: "a"}, {Kind: api.Via, A: "b", B: "c"}}}, {Kind: api.Same, A: "d"}}}
}

func TestEqual(t *testing.T) {
	if !shape.Equal(sample(), sample()) || !shape.Equal(api.Rule{Parts: []api.Rule{}}, api.Rule{}) {
		t.Fatal("the same rules")
	}
	for _, change := range []func(r *api.Rule){
		func(r *api.Rule) { r.Kind = api.Both },
		func(r *api.Rule) { r.Parts[1].Parts[0].A = "x" },
		func(r *api.Rule) { r.Parts[1].Parts[1].B = "x" },
		func(r *api.Rule) { r.Parts = r.Parts[:2] },
		func(r *api.Rule) { r.Parts[0].Parts = []api.Rule{{}} },
		func(r *api.Rule) { r.Parts[0], r.Parts[2] = r.Parts[2], r.Parts[0] },
	} {
		r := sample()
		change(&r)
		if shape.Equal(r, sample()) || shape.Equal(sample(), r) {
			t.Fatal(r)
		}
	}
}

func TestClone(t *testing.T) {
	a := sample()
	b := shape.Clone(a)
	if !shape.Equal(a, b) {
		t.Fatal(b)
	}
	b.Parts[1].Parts[0].A = "x"
	b.Parts[0].Kind = api.Via
	if !shape.Equal(a, sample()) {
		t.Fatal("the copy shares memory")
	}
}

func TestEach(t *testing.T) {
	var kinds []int
	shape.Each(sample(), func(r api.Rule) bool {
		kinds = append(kinds, r.Kind)
		return len(kinds) < 5
	})
	want := []int{api.Union, api.This, api.Both, api.Same, api.Via}
	if len(kinds) != len(want) {
		t.Fatal(kinds)
	}
	for i, k := range want {
		if kinds[i] != k {
			t.Fatal(kinds)
		}
	}
}
