package composite

import (
	"slices"

	"tablefinder/api"
	"tablefinder/table"
)

// counted is a choice of a table, with the number of tuples of the query that it has.
type counted struct {
	table   int
	columns []int
	tuples  int
}

// finder has the texts of a query as numbers: those of each place, and the tuples as lists of them.
type finder struct {
	numbers [api.MaxKey]map[string]int
	tuples  map[[api.MaxKey]int]int
	places  int
}

func newFinder(q [][]string) finder {
	f := finder{tuples: map[[api.MaxKey]int]int{}, places: len(q[0])}
	for place := range f.places {
		f.numbers[place] = map[string]int{}
	}
	for i, tuple := range q {
		var key [api.MaxKey]int
		for place, s := range tuple {
			n, ok := f.numbers[place][s]
			if !ok {
				n = len(f.numbers[place])
				f.numbers[place][s] = n
			}
			key[place] = n
		}
		f.tuples[key] = i
	}
	return f
}

// cells returns, for each row of a column, the number that its text has at a place, or -1.
func (f finder) cells(place int, c api.Column) []int {
	l := make([]int, len(c.Cells))
	for row, cell := range c.Cells {
		n, ok := f.numbers[place][cell.Text]
		if !ok || cell.Null {
			n = -1
		}
		l[row] = n
	}
	return l
}

// search returns the choices of a table that have tuples of the query, in order. Columns that have no text
// of a place are not chosen for it.
func (f finder) search(t api.Table) []counted {
	var cells [api.MaxKey][][]int
	for place := range f.places {
		for _, c := range t.Columns {
			cells[place] = append(cells[place], f.cells(place, c))
		}
	}
	may := func(place, column int) bool {
		return slices.ContainsFunc(cells[place][column], func(n int) bool { return n >= 0 })
	}
	var l []counted
	for columns := range choices(len(t.Columns), f.places, may) {
		var chosen [api.MaxKey][]int
		for place, j := range columns {
			chosen[place] = cells[place][j]
		}
		if n := f.count(chosen, table.Rows(t)); n > 0 {
			l = append(l, counted{table: t.ID, columns: columns, tuples: n})
		}
	}
	return l
}

// count returns how many tuples of the query are in rows.
func (f finder) count(chosen [api.MaxKey][]int, rows int) int {
	found := map[int]bool{}
	for row := range rows {
		var key [api.MaxKey]int
		for place := range f.places {
			key[place] = chosen[place][row]
		}
		if i, ok := f.tuples[key]; ok {
			found[i] = true
		}
	}
	return len(found)
}
