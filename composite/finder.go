package composite

import (
	"slices"

	"tablefinder/api"
	"tablefinder/table"
)

// counted is a choice of a table, with the number of tuples of the query that it has.
type counted struct {
	table   int
	columns []int
	tuples  int
}

// finder has the texts of a query as numbers: those of each place, and the tuples as lists of them.
type finder struct {
	numbers [api.MaxKey]map[string]int
	tuples  map[[api.MaxKey]int]int
	places  int
}

func newFinder(q [][]string) finder {
	f := finder{tuples: map[[api.MaxKey]int]int{}, places: len(q[0])}
	for place := range f.places {
		f.numbers[place] = map[string]int{}
	}
	for i, tuple := range q {
		var key [api.MaxKey]int
		for place, s := range tuple {
			n, ok := f.numbers[place][s]
			if !ok {
				n = len(f.numbers[place])
				f.numbers[place][s] = n
			}
			key[place] = n
		}
		f.tuples[key] = i
	}
	return f
}

// cells returns, for each row of a column, the number that its text has at a place, or -1.
func (f finder) cells(place int, c api.Column) []int {
	l := make([]int, len(c.Cells))
	for row, cell := range c.Cells {
		n, ok := f.numbers[place][cell.Text]
		if !ok || cell.Null {
			n = -1
		}
		l[row] = n
	}
	return l
}

// search returns the choices of a table that have tuples of the query, in order. Columns that have no text
// of a place are not chosen for it.
func (f finder) search(t api.Table) []counted {
	var cells [api.MaxKey][][]int
	for place := range f.places {
		for _, c := range t.Columns {
			cells[place] = append(cells[place], f.cells(place, c))
		}
	}
	may := func(place, column int) bool {
		return slices.ContainsFunc(cells[place][column], func(n int) bool { return n >= 0 })
	}
	var all []candidate
	for row := range table.Rows(t) {
		all = append(all, candidate{row: row})
	}
	var l []counted
	// Choices that follow each other mostly begin alike: what is left of the rows for that is kept.
	var last []int
	left := [api.MaxKey + 1][]candidate{all}
	for columns := range choices(len(t.Columns), f.places, may) {
		for place, j := range columns {
			if last == nil || !slices.Equal(last[:place+1], columns[:place+1]) {
				left[place+1] = narrowed(left[place], place, cells[place][j])
			}
		}
		last = columns
		if n := f.count(left[f.places]); n > 0 {
			l = append(l, counted{table: t.ID, columns: columns, tuples: n})
		}
	}
	return l
}

// candidate is a row with the numbers of its texts for some columns.
type candidate struct {
	row int
	key [api.MaxKey]int
}

// narrowed returns the rows that have a text of a place in a column, too.
func narrowed(rows []candidate, place int, cells []int) []candidate {
	var l []candidate
	for _, c := range rows {
		if n := cells[c.row]; n >= 0 {
			c.key[place] = n
			l = append(l, c)
		}
	}
	return l
}

// count returns how many tuples of the query rows have.
func (f finder) count(rows []candidate) int {
	found := map[int]bool{}
	for _, c := range rows {
		if i, ok := f.tuples[c.key]; ok {
			found[i] = true
		}
	}
	return len(found)
}
