// Package shape goes through rules as trees: whether two are the same, a copy, their parts.
package shape

import (
	"slices"

	"sentry/api"
)

// Equal asks whether two rules are the same, part by part.
func Equal(a, b api.Rule) bool {
	return a.Kind == b.Kind && a.A == b.A && a.B == b.B && slices.EqualFunc(a.Parts, b.Parts, Equal)
}

// Clone is a copy of a rule that shares no memory with it.
func Clone(r api.Rule) api.Rule {
	r.Parts = slices.Clone(r.Parts)
	for i, p := range r.Parts {
		r.Parts[i] = Clone(p)
	}
	return r
}

// Each goes through a rule and all that stands in it: each one ahead of its parts, these from the left.
// It ends as soon as visit answers false.
func Each(r api.Rule, visit func(api.Rule) bool) {
	left := []api.Rule{r}
	for len(left) > 0 {
		r := left[len(left)-1]
		left = left[:len(left)-1]
		if !visit(r) {
			return
		}
		for _, p := range slices.Backward(r.Parts) {
			left = append(left, p)
		}
	}
}
