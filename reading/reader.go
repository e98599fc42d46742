package reading

import (
	"strconv"

	"tablefinder/api"
	"tablefinder/delimited"
	"tablefinder/fixed"
	"tablefinder/header"
	"tablefinder/nested"
	"tablefinder/null"
	"tablefinder/sheet"
	"tablefinder/sniff"
	"tablefinder/types"
	"tablefinder/unit"
)

// reader makes the inferences of a file. An error ends it by a panic with the error code.
type reader struct {
	corrections []api.Correction
	choices     []api.Choice
}

// check ends the reading if there is an error.
func check(e api.Errno) {
	if e != api.OK {
		panic(e)
	}
}

// need ends the reading with an error unless something holds.
func need(holds bool, e api.Errno) {
	if !holds {
		panic(e)
	}
}

// made reports whether the inference of a correction was made.
func (r *reader) made(c api.Correction) bool {
	for _, x := range r.choices {
		if about(c, x.Kind, x.Table, x.Column) {
			return true
		}
	}
	return false
}

// infer makes an inference, and returns the text that is taken.
func (r *reader) infer(kind, table, column int, options []api.Option, own string) string {
	c := api.Choice{Kind: kind, Table: table, Column: column, Options: options, Taken: own}
	if s, ok := Find(r.corrections, kind, table, column); ok {
		c.Taken, c.Corrected = s, true
	}
	r.choices = append(r.choices, c)
	return c.Taken
}

// grids returns the grids of a file that is not nested.
func (r *reader) grids(f api.File) []api.Grid {
	read := map[int]func(api.File) []api.Grid{
		api.FormDelimited: r.delimited,
		api.FormFixed:     r.fixed,
		api.FormSheet:     r.sheet,
	}[f.Form]
	return read(f)
}

func (r *reader) delimited(f api.File) []api.Grid {
	var options []api.Option
	for _, c := range sniff.Candidates(f.Data) {
		name, _ := sniff.Name(c.Dialect)
		options = append(options, api.Option{Text: name, For: c.Regular, Against: c.Records - c.Regular})
	}
	own := ""
	if len(options) > 0 {
		own = options[0].Text
	} else {
		_, ok := Find(r.corrections, api.InferDialect, 0, 0)
		need(ok, api.ErrMissing)
	}
	d, ok := sniff.Named(r.infer(api.InferDialect, 0, 0, options, own))
	need(ok, api.ErrFormat)
	g, e := delimited.Parse(d, f.Data)
	check(e)
	return []api.Grid{g}
}

func (r *reader) fixed(f api.File) []api.Grid {
	options, own := fixed.Options(f.Data), "0"
	if len(options) > 0 {
		own = options[0].Text
	}
	layout, ok := fixed.Layout(r.infer(api.InferLayout, 0, 0, options, own))
	need(ok, api.ErrFormat)
	g, e := fixed.Parse(layout, f.Data)
	check(e)
	return []api.Grid{g}
}

func (r *reader) sheet(f api.File) []api.Grid {
	regions := sheet.Regions(f.Sheet)
	own, _ := sheet.Text(regions)
	options := []api.Option{{Text: own, For: len(regions)}}
	regions, ok := sheet.Parse(r.infer(api.InferRegions, 0, 0, options, own))
	need(ok, api.ErrFormat)
	var grids []api.Grid
	for _, region := range regions {
		g, e := sheet.Cut(f.Sheet, region)
		check(e)
		grids = append(grids, g)
	}
	return grids
}

// tables returns the tables of a file.
func (r *reader) tables(f api.File, id int) []api.Table {
	var tables []api.Table
	if f.Form == api.FormNested {
		n, e := nested.Parse(f.Data)
		check(e)
		need(0 <= id && id <= api.MaxID, api.ErrRange)
		tables, e = nested.Flatten(f.Name, id, n)
		check(e)
		for i := range tables {
			r.columns(i, tables[i].Columns)
		}
		return tables
	}
	grids := r.grids(f)
	for i, g := range grids {
		name := f.Name
		if len(grids) > 1 {
			name += " " + strconv.Itoa(i+1)
		}
		t := r.table(i, id, name, g)
		r.columns(i, t.Columns)
		tables = append(tables, t)
	}
	return tables
}

// table makes the table with the number i; id is that of the first one.
func (r *reader) table(i, id int, name string, g api.Grid) api.Table {
	options := header.Options(g)
	rows, ok := headerRows(r.infer(api.InferHeader, i, 0, options, options[0].Text))
	need(ok, api.ErrFormat)
	need(0 <= id && id <= api.MaxID-i, api.ErrRange)
	t, e := header.Apply(id+i, name, g, rows)
	check(e)
	return t
}

// headerRows returns the number of header rows that a text says.
func headerRows(s string) (int, bool) {
	for n := range api.MaxHeader + 1 {
		if s == strconv.Itoa(n) {
			return n, true
		}
	}
	return 0, false
}

// columns makes the inferences of the columns of a table, and applies them in place.
func (r *reader) columns(i int, columns []api.Column) {
	for j, c := range columns {
		options := null.Options(c)
		markers, ok := null.Parse(r.infer(api.InferNulls, i, j, options, null.Take(options)))
		need(ok, api.ErrFormat)
		c = null.Apply(c, markers)

		options = unit.Options(c)
		base := r.infer(api.InferUnit, i, j, options, unit.Take(options))
		need(base == "" || unit.Known(base), api.ErrFormat)
		c, e := unit.Apply(c, base)
		check(e)

		own, _ := types.Name(types.Guess(c))
		kind, ok := types.Named(r.infer(api.InferType, i, j, types.Options(c), own))
		need(ok, api.ErrFormat)
		columns[j], e = types.Apply(c, kind)
		check(e)
	}
}
