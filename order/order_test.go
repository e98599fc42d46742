package order

import (
	"testing"

	"tablefinder/api"
)

func TestOrders(t *testing.T) {
	step := func(a, b, c, d int) api.Step {
		return api.Step{From: api.Ref{Table: a, Column: b}, To: api.Ref{Table: c, Column: d}}
	}
	paths := []api.Path{
		{Start: 1}, {Start: 1, Steps: []api.Step{step(1, 0, 2, 0)}}, {Start: 1, Steps: []api.Step{step(1, 0, 2, 0), step(0, 0, 0, 0)}}, {Start: 1, Steps: []api.Step{step(1, 0, 2, 1)}},
		{Start: 1, Steps: []api.Step{step(1, 0, 3, 0)}}, {Start: 1, Steps: []api.Step{step(1, 1, 2, 0)}}, {Start: 1, Steps: []api.Step{step(2, 0, 1, 0)}}, {Start: 2},
	}
	for i, a := range paths {
		for j, b := range paths {
			if got := Paths(a, b); got < 0 != (i < j) || got > 0 != (i > j) {
				t.Error(i, j, got)
			}
		}
	}
}
