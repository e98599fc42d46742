package passed

import (
	"testing"

	"tablefinder/api"
)

func TestTables(t *testing.T) {
	l := []api.Table{{ID: 1}, {ID: 2}, {ID: 3}, {ID: 4}}
	step := api.Step{From: api.Ref{Table: 4}, To: api.Ref{Table: 2}}
	got := Tables(l, api.Path{Start: 4, Steps: []api.Step{step}})
	if len(got) != 2 || got[0].ID != 2 || got[1].ID != 4 {
		t.Error(got)
	}
}
