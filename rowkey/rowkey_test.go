package rowkey

import (
	"testing"

	"tablefinder/api"
)

func TestOf(t *testing.T) {
	null := api.Cell{Null: true}
	rows := [][]api.Cell{{{}, null}, {null, {}}, {null, null}, {{}, {}}, {{Text: "-"}, null}, {{Text: "1:a"}, {}}, {{}, {Text: "1:a"}}, {{Text: "a"}, {Text: "b"}}, {{Text: "a1:b"}, null}}
	taken := map[string]bool{}
	for _, row := range rows {
		if taken[Of(row)] {
			t.Error(row)
		}
		taken[Of(row)] = true
	}
}

func TestAll(t *testing.T) {
	cells := func(s string) api.Column {
		var c api.Column
		for _, r := range s {
			c.Cells = append(c.Cells, api.Cell{Text: string(r)})
		}
		return c
	}
	a := api.Table{Columns: []api.Column{cells("xxy"), cells("pqp"), cells("ppx")}}
	l := All(a, []int{1, 0})
	if len(l) != 3 || l[0] != Of([]api.Cell{{Text: "p"}, {Text: "x"}}) || l[0] == l[1] || l[2] != Of([]api.Cell{{Text: "p"}, {Text: "y"}}) {
		t.Error(l)
	}
	if len(All(api.Table{}, nil)) != 0 || len(All(a, nil)) != 3 {
		t.Error("no columns")
	}
}
