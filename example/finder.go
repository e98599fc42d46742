package example

import (
	"slices"

	"tablefinder/api"
	"tablefinder/clone"
	"tablefinder/join"
	"tablefinder/passed"
	"tablefinder/view"
)

// counted returns paths with their numbers of rows, in the order of answers, without those of too many rows.
func counted(l []api.Table, paths []api.Path) []api.Found {
	var found []api.Found
	for _, p := range paths {
		if rows, e := join.Rows(passed.Tables(l, p), p); e == api.OK {
			found = append(found, api.Found{View: api.View{Path: p}, Rows: len(rows)})
		}
	}
	slices.SortFunc(found, Cmp)
	return found
}

// finder finds the columns of a path that contain an example, in order.
type finder struct {
	path        api.Path
	rows        int
	example     api.Table
	refs        []api.Ref
	columns     []api.Column // the cells of refs in the rows of the path
	may         [][]bool     // whether a column may be at a place of the example
	first, last int          // the tables of which there must be a column
}

func newFinder(l []api.Table, f api.Found, q api.Table) finder {
	p := f.View.Path
	x := finder{path: p, rows: f.Rows, example: q, first: p.Start, last: p.Start}
	places := map[int]int{p.Start: 0}
	for i, s := range p.Steps {
		places[s.To.Table] = i + 1
		x.last = s.To.Table
	}
	tables := passed.Tables(l, p)
	rows, _ := join.Rows(tables, p)
	texts := map[string]bool{}
	for _, t := range tables {
		for j, c := range t.Columns {
			if !slices.ContainsFunc(c.Cells, func(cell api.Cell) bool { return !cell.Null }) {
				continue
			}
			var joined api.Column
			clear(texts)
			for _, row := range rows {
				cell := c.Cells[row[places[t.ID]]]
				joined.Cells = append(joined.Cells, cell)
				texts[cell.Text] = texts[cell.Text] || !cell.Null
			}
			x.refs = append(x.refs, api.Ref{Table: t.ID, Column: j})
			x.columns = append(x.columns, joined)
			x.may = append(x.may, x.fitting(texts))
		}
	}
	return x
}

// fitting returns for each place of the example whether a column with these texts may be there.
func (x finder) fitting(texts map[string]bool) []bool {
	var l []bool
	for _, c := range x.example.Columns {
		missing := func(cell api.Cell) bool { return !cell.Null && !texts[cell.Text] }
		l = append(l, !slices.ContainsFunc(c.Cells, missing))
	}
	return l
}

// complete reports whether columns can still become those of a candidate.
func (x finder) complete(chosen []int) bool {
	missing := map[int]bool{x.first: true, x.last: true}
	if x.first == x.last {
		clear(missing)
	}
	for _, i := range chosen {
		delete(missing, x.refs[i].Table)
	}
	return len(missing) <= len(x.example.Columns)-len(chosen)
}

// contains reports whether columns contain the first ones of the example.
func (x finder) contains(chosen []int) bool {
	var t api.Table
	for _, i := range chosen {
		t.Columns = append(t.Columns, x.columns[i])
	}
	return view.Contains(t, api.Table{Columns: x.example.Columns[:len(chosen)]})
}

// find returns the first k answers of the path.
func (x finder) find(k int) []api.Found {
	var answer []api.Found
	var extend func(chosen []int) bool
	extend = func(chosen []int) bool {
		if len(chosen) == len(x.example.Columns) {
			answer = append(answer, x.answer(chosen))
			return len(answer) < k
		}
		for i := range x.refs {
			more := append(slices.Clone(chosen), i)
			if x.may[i][len(chosen)] && x.complete(more) && x.contains(more) && !extend(more) {
				return false
			}
		}
		return true
	}
	if x.complete(nil) {
		extend(nil)
	}
	return answer
}

func (x finder) answer(chosen []int) api.Found {
	f := api.Found{View: api.View{Path: api.Path{Start: x.path.Start, Steps: clone.List(x.path.Steps)}}, Rows: x.rows}
	for _, i := range chosen {
		f.View.Columns = append(f.View.Columns, x.refs[i])
	}
	return f
}
