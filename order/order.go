// Package order holds the things that answers tell against each other: it says in which order they stand.
package order

import (
	"cmp"
	"slices"
	"strings"

	"sentry/api"
)

// Objs holds objects against each other: by Type, then ID.
func Objs(a, b api.Obj) int {
	return cmp.Or(strings.Compare(a.Type, b.Type), strings.Compare(a.ID, b.ID))
}

// Subs holds subjects against each other: by the object, then Rel.
func Subs(a, b api.Sub) int {
	return cmp.Or(Objs(a.Obj, b.Obj), strings.Compare(a.Rel, b.Rel))
}

// Points holds points against each other: by the object, then Rel.
func Points(a, b api.Point) int {
	return cmp.Or(Objs(a.Obj, b.Obj), strings.Compare(a.Rel, b.Rel))
}

// Refs holds relations of types against each other: by Type, then Rel.
func Refs(a, b api.Ref) int {
	return cmp.Or(strings.Compare(a.Type, b.Type), strings.Compare(a.Rel, b.Rel))
}

// Once puts a list in order, and lets each thing in it stand once.
func Once[T comparable](l []T, by func(a, b T) int) []T {
	slices.SortFunc(l, by)
	return slices.Compact(l)
}
