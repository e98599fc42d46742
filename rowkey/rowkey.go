// Package rowkey makes keys of rows, with which they can be counted in maps.
package rowkey

import (
	"strconv"
	"strings"

	"tablefinder/api"
)

// Of returns a text that is different for different rows of equal length.
func Of(row []api.Cell) string {
	var b strings.Builder
	for _, c := range row {
		if c.Null {
			b.WriteByte('-')
			continue
		}
		b.WriteString(strconv.Itoa(len(c.Text)))
		b.WriteByte(':')
		b.WriteString(c.Text)
	}
	return b.String()
}

// All returns the key of each row of a table, with some of its columns, in an order.
func All(t api.Table, columns []int) []string {
	if len(t.Columns) == 0 {
		return nil
	}
	var keys []string
	row := make([]api.Cell, len(columns))
	for i := range t.Columns[0].Cells {
		for n, j := range columns {
			row[n] = t.Columns[j].Cells[i]
		}
		keys = append(keys, Of(row))
	}
	return keys
}
