package clone

import (
	"reflect"
	"testing"

	"tablefinder/api"
)

func table() api.Table {
	return api.Table{ID: 3, Name: "n", Columns: []api.Column{{Name: "a", Cells: []api.Cell{{Text: "x"}, {Null: true}}}, {Name: "b"}}}
}

func TestTable(t *testing.T) {
	a := table()
	b := Table(a)
	if !reflect.DeepEqual(a, b) {
		t.Errorf("%+v", b)
	}
	b.Columns[0].Cells[0].Text = "y"
	b.Columns[1].Name = "c"
	if !reflect.DeepEqual(a, table()) {
		t.Error("shared memory")
	}
}
