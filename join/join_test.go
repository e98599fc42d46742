package join

import (
	"fmt"
	"math/rand"
	"slices"
	"strings"
	"testing"

	"tablefinder/api"
	"tablefinder/table"
)

func equal(t *testing.T, what string, got, want any) {
	t.Helper()
	if g, w := fmt.Sprintf("%+v", got), fmt.Sprintf("%+v", want); g != w {
		t.Errorf("%s:\n got %s\nwant %s", what, g, w)
	}
}

func list(l ...any) []any { return l }

// tab makes a table of columns of words, where _ is null.
func tab(id int, columns ...string) api.Table {
	t := api.Table{ID: id, Name: fmt.Sprint("t", id)}
	for i, words := range columns {
		c := api.Column{Name: fmt.Sprint("c", i)}
		for _, w := range strings.Fields(words) {
			c.Cells = append(c.Cells, api.Cell{Null: w == "_", Text: strings.Trim(w, "_")})
		}
		t.Columns = append(t.Columns, c)
	}
	return t
}

// step makes a step from tables and columns.
func step4(a, i, b, j int) api.Step {
	return api.Step{From: api.Ref{Table: a, Column: i}, To: api.Ref{Table: b, Column: j}}
}

func path(start int, steps ...api.Step) api.Path { return api.Path{Start: start, Steps: steps} }

func same(n int) string { return strings.Repeat("x ", n) }

func TestP31_1(t *testing.T) {
	l := []api.Table{tab(1, "a", "b"), tab(2, "a"), tab(3, "a", "c"), tab(4), tab(5, "a"), tab(6, "a")}
	five := []api.Step{step4(1, 0, 2, 0), step4(2, 0, 3, 0), step4(1, 1, 5, 0), step4(3, 1, 6, 0), step4(9, 9, 9, 9)}
	for i, x := range []struct {
		l []api.Table
		p api.Path
		e api.Errno
	}{
		{[]api.Table{tab(2), tab(1)}, path(9, five...), 1}, {l, path(9, five...), 3}, {l, path(1, five[:4]...), 0}, {l, path(9), 21}, {nil, path(0), 21}, {l, path(4), 0}, {l, path(1, five[1]), 21}, {l, path(1, step4(1, 0, 1, 1)), 21}, {l, path(1, five[0], step4(2, 0, 1, 0)), 21}, {l, path(1, five[0], five[0]), 21},
		{l, path(1, step4(1, 2, 2, 0)), 21}, {l, path(1, step4(1, -1, 2, 0)), 21}, {l, path(1, step4(1, 0, 2, 1)), 21}, {l, path(1, step4(1, 0, 2, -1)), 21}, {l, path(1, step4(1, 0, 7, 0)), 21}, {l, path(1, step4(1, 0, 4, 0)), 21},
	} {
		rows, e := Rows(x.l, x.p)
		j, f := Path(x.l, x.p)
		equal(t, fmt.Sprint(i), list(Valid(x.l, x.p), e, f, e == api.OK || rows == nil && table.Same(j, api.Table{})), list(x.e, x.e, x.e, true))
	}
}

func TestP31_2(t *testing.T) {
	a, b := tab(1, "x y x _", "1 2 3 4"), tab(2, "x _ z y x")
	j, e := Two(a, 0, b, 0)
	want := tab(1, "x x y x x", "1 1 2 3 3", "x x y x x")
	want.Columns[2].Name = "c0"
	equal(t, "two", list(j, e), list(want, 0))
	j.Columns[0].Cells[0].Text = "!"
	equal(t, "argument", a, tab(1, "x y x _", "1 2 3 4"))
	j, _ = Two(tab(1, "x x"), 0, tab(1, "x x x"), 0)
	equal(t, "six rows", table.Rows(j), 6)
	wide := api.Table{Columns: make([]api.Column, 64)}
	for i, x := range []struct {
		a api.Table
		i int
		b api.Table
		j int
		e api.Errno
	}{{tab(-1, "x"), 9, b, 9, 1}, {a, 9, tab(-1), 9, 1}, {a, 2, b, 0, 2}, {a, -1, b, 0, 2}, {a, 0, b, 1, 2}, {a, 0, b, -1, 2}, {wide, 0, b, 0, 3}, {api.Table{Columns: wide.Columns[:63]}, 0, tab(1, ""), 0, 0}, {tab(1, same(64)), 0, tab(2, same(64)), 0, 0}, {tab(1, same(241)), 0, tab(2, same(17)), 0, 3}} {
		j, e := Two(x.a, x.i, x.b, x.j)
		equal(t, fmt.Sprint(i), list(e, e == api.OK || table.Same(j, api.Table{})), list(x.e, true))
	}
}

// naive returns the rows of a path by trying all lists of rows.
func naive(l []api.Table, p api.Path) [][]int {
	ids := []int{p.Start}
	rows := [][]int{{}}
	grow := func(id int, fits func(row []int) bool) {
		t, _ := table.Find(l, id)
		var next [][]int
		for _, row := range rows {
			for i := range table.Rows(t) {
				if r := append(slices.Clone(row), i); fits(r) {
					next = append(next, r)
				}
			}
		}
		rows = next
	}
	grow(p.Start, func([]int) bool { return true })
	for _, s := range p.Steps {
		from, _ := table.Get(l, s.From)
		to, _ := table.Get(l, s.To)
		at := slices.Index(ids, s.From.Table)
		grow(s.To.Table, func(row []int) bool {
			c, d := from.Cells[row[at]], to.Cells[row[len(row)-1]]
			return !c.Null && !d.Null && c.Text == d.Text
		})
		ids = append(ids, s.To.Table)
	}
	return rows
}

func TestP31_3(t *testing.T) {
	r := rand.New(rand.NewSource(1))
	for range 2000 {
		var l []api.Table
		for id := range 5 {
			var columns []string
			for range 2 {
				words := ""
				for range 4 {
					words += " " + []string{"a", "b", "c", "_"}[r.Intn(4)]
				}
				columns = append(columns, words)
			}
			l = append(l, tab(id, columns...))
		}
		order := r.Perm(5)
		p := path(order[0])
		for n := range r.Intn(5) {
			p.Steps = append(p.Steps, step4(order[r.Intn(n+1)], r.Intn(2), order[n+1], r.Intn(2)))
		}
		want := naive(l, p)
		rows, e := Rows(l, p)
		equal(t, fmt.Sprint(l, p), list(rows, e), list(want, 0))
		j, e := Path(l, p)
		equal(t, "size", list(table.Rows(j), len(j.Columns), j.Name, e), list(len(want), 2+2*len(p.Steps), fmt.Sprint("t", order[0]), 0))
		for i, row := range want {
			for n, row := range row {
				equal(t, "cells", list(j.Columns[2*n].Cells[i], j.Columns[2*n+1].Cells[i]), list(l[order[n]].Columns[0].Cells[row], l[order[n]].Columns[1].Cells[row]))
			}
		}
		if len(p.Steps) == 1 {
			s := p.Steps[0]
			two, _ := Two(l[s.From.Table], s.From.Column, l[s.To.Table], s.To.Column)
			equal(t, "two", two, j)
		}
	}
}

// TestLimits has paths with very many rows in between, and with too many in the end.
func TestLimits(t *testing.T) {
	l := []api.Table{tab(1, same(4096)), tab(2, same(4096)), tab(3, same(4096)), tab(4, same(4096), strings.Repeat("y ", 4096)), tab(5, "z")}
	chain := path(1, step4(1, 0, 2, 0), step4(2, 0, 3, 0), step4(3, 0, 4, 0), step4(4, 1, 5, 0))
	rows, e := Rows(l, chain)
	equal(t, "no rows", list(rows, e), list([][]int{}, 0))
	_, e = Rows(l, path(1, chain.Steps[:3]...))
	_, f := Path(l, path(1, chain.Steps[:1]...))
	rows, g := Rows(l, path(4))
	equal(t, "rows", list(e, f, g, len(rows)), list(3, 3, 0, 4096))
	wide := []api.Table{{ID: 1, Columns: make([]api.Column, 40)}, {ID: 2, Columns: make([]api.Column, 25)}}
	_, e = Path(wide, path(1, step4(1, 0, 2, 0)))
	_, f = Rows(wide, path(1, step4(1, 0, 2, 0)))
	equal(t, "columns", list(e, f), list(3, 0))
}

func TestMostColumns(t *testing.T) {
	l := []api.Table{{ID: 1, Columns: make([]api.Column, 40)}, {ID: 2, Columns: make([]api.Column, 24)}}
	j, e := Path(l, path(1, step4(1, 0, 2, 0)))
	equal(t, "columns", list(len(j.Columns), e), list(64, 0))
}
