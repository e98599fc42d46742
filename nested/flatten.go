package nested

import (
	"slices"
	"strconv"

	"tablefinder/api"
	"tablefinder/table"
	"tablefinder/text"
)

// Flatten returns tables for a record or a list of records.
func Flatten(name string, id int, n api.Node) ([]api.Table, api.Errno) {
	records := []api.Node{n}
	if n.Kind == api.NestList {
		records = n.Kids
	}
	if !Valid(n) || !allRecords(records) || !text.Valid(name) {
		return nil, api.ErrInvalid
	}
	f := flattener{id: id}
	if !f.add(name, nil, records) {
		return nil, api.ErrLimit
	}
	return f.tables, api.OK
}

func allRecords(l []api.Node) bool {
	return !slices.ContainsFunc(l, func(n api.Node) bool { return n.Kind != api.NestRecord })
}

// flattener collects tables; id is the ID of the first one.
type flattener struct {
	id     int
	tables []api.Table
}

// found is what was found of a path: its scalar in some of the records, or its list.
type found struct {
	path string
	rows []int
	kids []api.Node
}

// finds are paths in the order in which they first occur.
type finds struct {
	list   []found
	places map[string]int
}

// put adds what a record has of a path, unless the record had the path before.
func (f *finds) put(path string, row int, n api.Node) {
	i, ok := f.places[path]
	if !ok {
		i = len(f.list)
		f.places[path] = i
		f.list = append(f.list, found{path: path})
	}
	x := &f.list[i]
	if len(x.rows) > 0 && x.rows[len(x.rows)-1] == row {
		return
	}
	x.rows, x.kids = append(x.rows, row), append(x.kids, n)
}

// collect goes through a record, kid by kid.
func collect(prefix string, row int, record api.Node, scalars, lists *finds) {
	for i, kid := range record.Kids {
		path := prefix + record.Keys[i]
		switch kid.Kind {
		case api.NestRecord:
			collect(path+".", row, kid, scalars, lists)
		case api.NestList:
			lists.put(path, row, kid)
		default:
			scalars.put(path, row, kid)
		}
	}
}

// add adds the table of some records, and its further tables; rows are the numbers of the rows above
// (nil for the main table). It reports whether no limit was exceeded.
func (f *flattener) add(name string, rows []int, records []api.Node) bool {
	scalars, lists := finds{places: map[string]int{}}, finds{places: map[string]int{}}
	for i, record := range records {
		collect("", i, record, &scalars, &lists)
	}
	// This comes before the cells are made: very many columns and rows may be too many for the memory.
	if len(scalars.list) > api.MaxColumns || len(records) > api.MaxRows {
		return false
	}
	t := api.Table{Name: name}
	if rows != nil {
		t.Columns = append(t.Columns, rowColumn(rows))
	}
	for _, x := range scalars.list {
		c := api.Column{Name: x.path, Cells: slices.Repeat([]api.Cell{{Null: true}}, len(records))}
		for i, row := range x.rows {
			c.Cells[row] = cell(x.kids[i])
		}
		t.Columns = append(t.Columns, c)
	}
	return f.put(t) && !slices.ContainsFunc(lists.list, func(x found) bool {
		return !f.further(name+"."+x.path, x)
	})
}

// further adds the table of the lists of a path.
func (f *flattener) further(name string, x found) bool {
	rows, elements := []int{}, []api.Node{}
	for i, list := range x.kids {
		for _, kid := range list.Kids {
			rows, elements = append(rows, x.rows[i]), append(elements, kid)
		}
	}
	if allRecords(elements) {
		return f.add(name, rows, elements)
	}
	if len(rows) > api.MaxRows {
		return false
	}
	values := api.Column{Name: "value"}
	for _, n := range elements {
		values.Cells = append(values.Cells, cell(n))
	}
	return f.put(api.Table{Name: name, Columns: []api.Column{rowColumn(rows), values}})
}

// put adds a table, with the next ID, and reports whether it is valid.
func (f *flattener) put(t api.Table) bool {
	// The ID is checked before the sum, which could be no int.
	if len(f.tables) == api.MaxTables || f.id > api.MaxID {
		return false
	}
	t.ID = f.id + len(f.tables)
	f.tables = append(f.tables, t)
	return table.Valid(t)
}

func rowColumn(rows []int) api.Column {
	c := api.Column{Name: "row"}
	for _, n := range rows {
		c.Cells = append(c.Cells, api.Cell{Text: strconv.Itoa(n)})
	}
	return c
}

// cell returns the cell of a node: null for null, lists and records.
func cell(n api.Node) api.Cell {
	switch n.Kind {
	case api.NestBool, api.NestNumber, api.NestText:
		return api.Cell{Text: n.Text}
	}
	return api.Cell{Null: true}
}
