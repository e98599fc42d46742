package rowkey

import (
	"testing"

	"tablefinder/api"
)

func TestOf(t *testing.T) {
	null := api.Cell{Null: true}
	rows := [][]api.Cell{{{}, null}, {null, {}}, {null, null}, {{}, {}}, {{Text: "-"}, null}, {{Text: "1:a"}, {}}, {{}, {Text: "1:a"}}, {{Text: "a"}, {Text: "b"}}, {{Text: "a1:b"}, null}}
	taken := map[string]bool{}
	for _, row := range rows {
		if taken[Of(row)] {
			t.Error(row)
		}
		taken[Of(row)] = true
	}
}
