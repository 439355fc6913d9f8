package order_test

import (
	"slices"
	"testing"

	"sentry/api"
	"sentry/order"
)

func TestOrder(t *testing.T) {
	objs := []api.Obj{{Type: "a", ID: "a"}, {Type: "a", ID: "b"}, {Type: "aa", ID: ""}, {Type: "b", ID: "a"}}
	for i, a := range objs {
		for j, b := range objs {
			for k, r := range []string{"", "m", "n"} {
				for m, q := range []string{"", "m", "n"} {
					want := slices.Compare([]int{i, k}, []int{j, m})
					if order.Subs(api.Sub{Obj: a, Rel: r}, api.Sub{Obj: b, Rel: q}) != want || order.Points(api.Point{Obj: a, Rel: r}, api.Point{Obj: b, Rel: q}) != want {
						t.Fatal(a, r, b, q)
					}
				}
			}
			if want := slices.Compare([]int{i}, []int{j}); order.Objs(a, b) != want || order.Refs(api.Ref{Type: a.Type, Rel: a.ID}, api.Ref{Type: b.Type, Rel: b.ID}) != want {
				t.Fatal(a, b)
			}
		}
	}
	if got := order.Once([]api.Obj{objs[2], objs[0], objs[2], objs[3], objs[0]}, order.Objs); !slices.Equal(got, []api.Obj{objs[0], objs[2], objs[3]}) {
		t.Fatal(got)
	}
}
