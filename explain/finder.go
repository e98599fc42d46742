package explain

import (
	"cmp"
	"maps"
	"slices"

	"tablefinder/api"
	"tablefinder/rowkey"
	"tablefinder/table"
)

// finder has the projected rows of a and the rows of b as numbers: equal rows have the same one.
type finder struct {
	from         api.Table
	rows, wanted []int
	ordered      []int         // wanted in ascending order
	sorts        []int         // the columns by which the rows of b ascend
	ranks        map[int][]int // for each of these columns, the order of each row among all rows
}

// newFinder returns false if b has a row that a does not have.
func newFinder(a, b api.Table, columns []int) (finder, bool) {
	f := finder{from: a, ranks: map[int][]int{}}
	places := map[string]int{}
	var first []int
	for i, key := range rowkey.All(a, columns) {
		n, ok := places[key]
		if !ok {
			n = len(places)
			places[key] = n
			first = append(first, i)
		}
		f.rows = append(f.rows, n)
	}
	for _, key := range rowkey.All(b, numbers(len(b.Columns))) {
		n, ok := places[key]
		if !ok {
			return finder{}, false
		}
		f.wanted = append(f.wanted, n)
	}
	f.ordered = slices.Sorted(slices.Values(f.wanted))
	for j, c := range b.Columns {
		if slices.IsSortedFunc(c.Cells, table.CompareCells) {
			f.sorts = append(f.sorts, j)
			f.ranks[j] = ranks(a.Columns[columns[j]].Cells, first)
		}
	}
	return f, true
}

// ranks returns the order of some cells: equal cells have the same rank.
func ranks(cells []api.Cell, rows []int) []int {
	order := numbers(len(rows))
	compare := func(x, y int) int { return table.CompareCells(cells[rows[x]], cells[rows[y]]) }
	slices.SortFunc(order, compare)
	l := make([]int, len(rows))
	for i := range order {
		l[order[i]] = i
		if i > 0 && compare(order[i-1], order[i]) == 0 {
			l[order[i]] = l[order[i-1]]
		}
	}
	return l
}

// filters hands each filter, in order, and the rows that it keeps to a closure, until that returns false.
// The first one is that there is none.
func (f finder) filters(visit func(filter []api.Op, rows []int) bool) {
	if !visit(nil, f.rows) {
		return
	}
	for j, c := range f.from.Columns {
		var full []int
		equal := map[string][]int{}
		for i, cell := range c.Cells {
			if !cell.Null {
				full = append(full, f.rows[i])
				equal[cell.Text] = append(equal[cell.Text], f.rows[i])
			}
		}
		if !visit([]api.Op{{Kind: api.OpFull, Column: j}}, full) {
			return
		}
		for _, text := range slices.Sorted(maps.Keys(equal)) {
			if !visit([]api.Op{{Kind: api.OpEqual, Column: j, Text: text}}, equal[text]) {
				return
			}
		}
	}
}

// find returns the first derivation with so many operations, a projection not counted: its filter, and what
// comes behind the projection.
func (f finder) find(steps int) (filter, rest []api.Op, ok bool) {
	f.filters(func(by []api.Op, rows []int) bool {
		if len(by) > steps {
			return false
		}
		filter = by
		rest, ok = f.arrange(rows, steps-len(by))
		return !ok
	})
	return filter, rest, ok
}

// arrange returns the first way to make the wanted rows of rows with so many operations.
func (f finder) arrange(rows []int, steps int) ([]api.Op, bool) {
	once := api.Op{Kind: api.OpDistinct}
	switch steps {
	case 0:
		return nil, slices.Equal(rows, f.wanted)
	case 1:
		if l, ok := f.sort(rows); ok {
			return l, true
		}
		return []api.Op{once}, slices.Equal(unique(rows), f.wanted)
	case 2:
		l, ok := f.sort(unique(rows))
		return append([]api.Op{once}, l...), ok
	}
	return nil, false
}

// unique returns the first one of equal rows.
func unique(rows []int) []int {
	seen := map[int]bool{}
	var l []int
	for _, n := range rows {
		if !seen[n] {
			seen[n] = true
			l = append(l, n)
		}
	}
	return l
}

// sort returns the first sort that makes the wanted rows of rows.
func (f finder) sort(rows []int) ([]api.Op, bool) {
	if len(f.sorts) == 0 || len(rows) != len(f.wanted) || !slices.Equal(slices.Sorted(slices.Values(rows)), f.ordered) {
		return nil, false
	}
	for _, j := range f.sorts {
		l := slices.Clone(rows)
		slices.SortStableFunc(l, func(x, y int) int { return cmp.Compare(f.ranks[j][x], f.ranks[j][y]) })
		if slices.Equal(l, f.wanted) {
			return []api.Op{{Kind: api.OpSort, Column: j}}, true
		}
	}
	return nil, false
}
