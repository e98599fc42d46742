// Package rowkey makes keys of rows, with which they can be counted in maps.
package rowkey

import (
	"strconv"
	"strings"

	"tablefinder/api"
)

// Of returns a text that is different for different rows of equal length.
func Of(row []api.Cell) string {
	var b strings.Builder
	for _, c := range row {
		if c.Null {
			b.WriteByte('-')
			continue
		}
		b.WriteString(strconv.Itoa(len(c.Text)))
		b.WriteByte(':')
		b.WriteString(c.Text)
	}
	return b.String()
}
