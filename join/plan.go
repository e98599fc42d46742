package join

import (
	"slices"

	"tablefinder/api"
	"tablefinder/table"
)

// step is a step of a plan: the place of the table that it comes from, the cells there, and the partners
// that they have. Only rows that lead on to a row of each further table are partners.
type step struct {
	parent   int
	cells    []api.Cell
	partners map[string][]int
}

// plan is a valid path with its tables in order. The row with the number i of its first table leads to
// rows if leads[i] is true.
type plan struct {
	tables []api.Table
	steps  []step
	leads  []bool
}

func newPlan(l []api.Table, p api.Path) plan {
	var q plan
	places := map[int]int{}
	add := func(id int) {
		i, _ := place(l, id)
		places[id] = len(q.tables)
		q.tables = append(q.tables, l[i])
	}
	add(p.Start)
	for _, s := range p.Steps {
		parent := places[s.From.Table]
		add(s.To.Table)
		q.steps = append(q.steps, step{parent: parent, cells: q.tables[parent].Columns[s.From.Column].Cells})
	}
	// The last table first: when it comes to a table, it is known which rows of those behind it lead on.
	leads := make([][]bool, len(q.tables))
	for i, t := range q.tables {
		leads[i] = slices.Repeat([]bool{true}, table.Rows(t))
	}
	for i, s := range slices.Backward(p.Steps) {
		x := &q.steps[i]
		x.partners = leading(q.tables[i+1].Columns[s.To.Column], leads[i+1])
		for row, cell := range x.cells {
			leads[x.parent][row] = leads[x.parent][row] && len(fitting(x.partners, cell)) > 0
		}
	}
	q.leads = leads[0]
	return q
}

// leading returns the rows of a column that lead on by the texts of their cells.
func leading(c api.Column, leads []bool) map[string][]int {
	rows := byText(c)
	for text, l := range rows {
		rows[text] = slices.DeleteFunc(l, func(row int) bool { return !leads[row] })
	}
	return rows
}

// rows returns the rows of the path in ascending order; false if there are too many. As every row that is
// taken leads on, it takes no way in vain.
func (q plan) rows() ([][]int, bool) {
	var all [][]int
	var extend func(row []int) bool
	extend = func(row []int) bool {
		if len(row) == len(q.tables) {
			all = append(all, slices.Clone(row))
			return len(all) <= api.MaxRows
		}
		s := q.steps[len(row)-1]
		for _, next := range fitting(s.partners, s.cells[row[s.parent]]) {
			if !extend(append(row, next)) {
				return false
			}
		}
		return true
	}
	for first, leads := range q.leads {
		if leads && !extend(append(make([]int, 0, len(q.tables)), first)) {
			return nil, false
		}
	}
	return all, true
}
