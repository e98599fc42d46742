// Package passed picks the tables that a path passes.
package passed

import "tablefinder/api"

// Tables returns those tables of a list that a path passes, in the order of the list.
func Tables(l []api.Table, p api.Path) []api.Table {
	ids := map[int]bool{p.Start: true}
	for _, s := range p.Steps {
		ids[s.To.Table] = true
	}
	var tables []api.Table
	for _, t := range l {
		if ids[t.ID] {
			tables = append(tables, t)
		}
	}
	return tables
}
