package profile

import (
	"iter"
	"slices"

	"tablefinder/api"
	"tablefinder/table"
)

// numbered are the cells of a table as numbers: equal cells of a column have the same one, null has -1.
type numbered [][]int

func number(t api.Table) numbered {
	l := make(numbered, len(t.Columns))
	for j, c := range t.Columns {
		places := map[string]int{}
		for _, cell := range c.Cells {
			n := -1
			if !cell.Null {
				var ok bool
				if n, ok = places[cell.Text]; !ok {
					n = len(places)
					places[cell.Text] = n
				}
			}
			l[j] = append(l[j], n)
		}
	}
	return l
}

// group returns, for each row, the number of its group: the rows of a group have equal cells in some columns.
func (l numbered) group(columns []int, rows int) []int {
	groups := make([]int, rows)
	for _, j := range columns {
		places := map[[2]int]int{}
		for row := range rows {
			key := [2]int{groups[row], l[j][row]}
			n, ok := places[key]
			if !ok {
				n = len(places)
				places[key] = n
			}
			groups[row] = n
		}
	}
	return groups
}

// unique reports whether no cell of a column is null, and no two rows of a group have equal ones.
func (l numbered) unique(groups []int, column int) bool {
	seen := map[[2]int]bool{}
	for row, n := range l[column] {
		key := [2]int{groups[row], n}
		if n < 0 || seen[key] {
			return false
		}
		seen[key] = true
	}
	return true
}

// full reports whether columns have no null cells.
func (l numbered) full(columns []int) bool {
	return !slices.ContainsFunc(columns, func(j int) bool { return slices.Contains(l[j], -1) })
}

// IsKey reports whether columns are a key of a valid table.
func IsKey(t api.Table, columns []int) bool {
	if !table.Valid(t) || !there(t, columns) || len(columns) == 0 || len(count(columns)) != len(columns) {
		return false
	}
	cells, last := number(t), len(columns)-1
	return cells.full(columns) && cells.unique(cells.group(columns[:last], table.Rows(t)), columns[last])
}

// choices goes through the ascending lists of size columns out of n.
func choices(n, size int) iter.Seq[[]int] {
	return func(yield func([]int) bool) {
		var extend func(l []int, from int) bool
		extend = func(l []int, from int) bool {
			if len(l) == size {
				return yield(slices.Clone(l))
			}
			for j := from; j < n; j++ {
				if !extend(append(l, j), j+1) {
					return false
				}
			}
			return true
		}
		extend(make([]int, 0, size), 0)
	}
}

// covers reports whether a list has all elements of another one.
func covers(l, part []int) bool {
	return !slices.ContainsFunc(part, func(j int) bool { return !slices.Contains(l, j) })
}

// Keys returns the minimal keys of at most most columns.
func Keys(t api.Table, most int) ([][]int, api.Errno) {
	if !table.Valid(t) {
		return nil, api.ErrInvalid
	}
	if most < 0 || most > api.MaxKey {
		return nil, api.ErrRange
	}
	cells := number(t)
	var keys [][]int
	for size := 1; size <= most; size++ {
		// Choices that follow each other mostly begin alike: their groups are made once.
		var begin, groups []int
		for columns := range choices(len(t.Columns), size) {
			if groups == nil || !slices.Equal(begin, columns[:size-1]) {
				begin = columns[:size-1]
				groups = cells.group(begin, table.Rows(t))
			}
			minimal := !slices.ContainsFunc(keys, func(key []int) bool { return covers(columns, key) })
			if minimal && cells.full(columns) && cells.unique(groups, columns[size-1]) {
				keys = append(keys, slices.Clone(columns))
			}
		}
	}
	return keys, api.OK
}

// Determines reports whether rows that are equal in some columns are equal in another one.
func Determines(t api.Table, from []int, to int) bool {
	if !table.Valid(t) || !there(t, from) || !there(t, []int{to}) {
		return false
	}
	cells := number(t)
	first := map[int]int{}
	for row, group := range cells.group(from, table.Rows(t)) {
		n, ok := first[group]
		if ok && n != cells[to][row] {
			return false
		}
		first[group] = cells[to][row]
	}
	return true
}
