package table

import (
	"fmt"
	"reflect"
	"strings"
	"testing"

	"tablefinder/api"
)

func equal(t *testing.T, what string, got, want any) {
	t.Helper()
	if g, w := fmt.Sprintf("%+v", got), fmt.Sprintf("%+v", want); g != w {
		t.Errorf("%s:\n got %s\nwant %s", what, g, w)
	}
}

func list(l ...any) []any { return l }

// column makes a column of words, where _ is null.
func column(name, words string) api.Column {
	c := api.Column{Name: name}
	for _, w := range strings.Fields(words) {
		if w == "_" {
			c.Cells = append(c.Cells, api.Cell{Null: true})
		} else {
			c.Cells = append(c.Cells, api.Cell{Text: w})
		}
	}
	return c
}

func tab(id int, columns ...string) api.Table {
	t := api.Table{ID: id, Name: "t"}
	for i, c := range columns {
		t.Columns = append(t.Columns, column(fmt.Sprint("c", i), c))
	}
	return t
}

var long = strings.Repeat("x", api.MaxText)

// invalid returns tables that are not valid.
func invalid() []api.Table {
	l := []api.Table{{ID: -1}, {ID: api.MaxID + 1}, {Name: "\xff"}, {Name: long + "x"}, tab(1, "a b", "a"), tab(1, "a", "")}
	l = append(l, api.Table{Columns: make([]api.Column, 65)}, api.Table{Columns: []api.Column{{Cells: make([]api.Cell, 4097)}}})
	for _, c := range []api.Column{{Name: "\xff"}, {Name: long + "x"}, {Cells: []api.Cell{{Null: true, Text: "x"}}}, {Cells: []api.Cell{{Text: "\xff"}}}, {Cells: []api.Cell{{Text: long + "x"}}}} {
		l = append(l, api.Table{Columns: []api.Column{c}})
	}
	return l
}

func TestP3_1Valid(t *testing.T) {
	equal(t, "cells", list(ValidCell(api.Cell{}), ValidCell(api.Cell{Null: true}), ValidCell(api.Cell{Text: long}), ValidCell(api.Cell{Null: true, Text: "a"}), ValidCell(api.Cell{Text: long + "a"}), ValidCell(api.Cell{Text: "\xc3"})), list(true, true, true, false, false, false))
	for i, x := range invalid() {
		equal(t, fmt.Sprint("invalid ", i), list(Valid(x), ValidList([]api.Table{x})), list(false, false))
	}
	equal(t, "valid", list(Valid(api.Table{}), Valid(tab(api.MaxID, "a _", "b c")), Valid(api.Table{Columns: make([]api.Column, 64)}), Valid(api.Table{Name: long, Columns: []api.Column{{Name: long, Cells: make([]api.Cell, 4096)}}})), list(true, true, true, true))
	many := make([]api.Table, 1025)
	for i := range many {
		many[i].ID = i
	}
	equal(t, "lists", list(ValidList(nil), ValidList(many[:1024]), ValidList(many), ValidList([]api.Table{tab(2), tab(2)}), ValidList([]api.Table{tab(3), tab(2)})), list(true, true, false, false, false))
}

func TestP3_1Get(t *testing.T) {
	l := []api.Table{tab(4, "a b", "c d"), tab(9), tab(4, "x", "y", "z"), {ID: -3, Columns: []api.Column{column("n", "m m m"), column("o", "")}}}
	equal(t, "rows", list(Rows(l[0]), Rows(l[1]), Rows(l[3])), list(2, 0, 3))
	a, ok := Find(l, 4)
	equal(t, "find", list(a, ok), list(l[0], true))
	b, ok := Find(l, 5)
	equal(t, "missing", list(b, ok), list(api.Table{}, false))
	c, ok := Get(l, api.Ref{Table: 4, Column: 1})
	equal(t, "get", list(c, ok), list(l[0].Columns[1], true))
	for _, r := range []api.Ref{{Table: 4, Column: 2}, {Table: 4, Column: -1}, {Table: 5}, {Table: 9}} {
		d, ok := Get(l, r)
		equal(t, "no column", list(d, ok), list(api.Column{}, false))
	}
	equal(t, "refs", Refs(l[1:]), []api.Ref{{Table: 4}, {Table: 4, Column: 1}, {Table: 4, Column: 2}, {Table: -3}, {Table: -3, Column: 1}})
	a.Columns[0].Cells[0].Text, c.Cells[0].Text = "!", "!"
	if !reflect.DeepEqual(l[0], tab(4, "a b", "c d")) {
		t.Error("shared memory")
	}
	equal(t, "less", list(Less(api.Ref{Table: 1, Column: 9}, api.Ref{Table: 2}), Less(api.Ref{Table: 2}, api.Ref{Table: 2, Column: 1}), Less(api.Ref{Table: 2}, api.Ref{Table: 2}), Less(api.Ref{Table: 2}, api.Ref{Table: 1, Column: 5})), list(true, true, false, false))
	null, text, empty := api.Cell{Null: true, Text: "z"}, api.Cell{Text: "a"}, api.Cell{}
	equal(t, "cells", list(CompareCells(null, empty), CompareCells(empty, null), CompareCells(null, api.Cell{Null: true}), CompareCells(empty, text), CompareCells(text, empty), CompareCells(text, text)), list(-1, 1, 0, -1, 1, 0))
}

func TestP3_2(t *testing.T) {
	a := tab(7, "b _ a", "1 2 3")
	r, _ := Row(a, 1)
	equal(t, "row", r, []api.Cell{{Null: true}, {Text: "2"}})
	p, _ := Project(a, []int{1, 0, 1})
	want := tab(7, "1 2 3", "b _ a", "1 2 3")
	want.Columns[0].Name, want.Columns[1].Name, want.Columns[2].Name = "c1", "c0", "c1"
	equal(t, "project", p, want)
	p.Columns[0].Cells[0].Text = "!"
	equal(t, "separate", list(p.Columns[2].Cells[0].Text, a.Columns[1].Cells[0].Text), list("1", "1"))
	none, e := Project(a, nil)
	equal(t, "no columns", list(none, e), list(api.Table{ID: 7, Name: "t"}, api.OK))
	s, _ := Select(a, []int{2, 0, 0})
	equal(t, "select", s, tab(7, "a b b", "3 1 1"))
	o, _ := Sort(a)
	equal(t, "sort", o, tab(7, "_ a b", "2 3 1"))
	o, _ = Sort(tab(7, "x x x", "b a _"))
	equal(t, "second column", o, tab(7, "x x x", "_ a b"))
	equal(t, "argument", a, tab(7, "b _ a", "1 2 3"))
}

func TestP3_2Errors(t *testing.T) {
	for i, x := range invalid() {
		r, a := Row(x, -1)
		p, b := Project(x, []int{-1})
		s, c := Select(x, []int{-1})
		o, d := Sort(x)
		equal(t, fmt.Sprint(i), list(r, p, s, o, a, b, c, d), list([]api.Cell{}, api.Table{}, api.Table{}, api.Table{}, 1, 1, 1, 1))
	}
	a := tab(1, "a b", "c d")
	for _, i := range []int{-1, 2} {
		_, e := Row(a, i)
		_, f := Project(a, append(make([]int, 65), i))
		_, g := Select(a, append(make([]int, 4097), i))
		equal(t, "range", list(e, f, g), list(2, 2, 2))
	}
	_, e := Project(a, make([]int, 65))
	_, f := Select(a, make([]int, 4097))
	_, g := Project(a, make([]int, 64))
	_, h := Select(a, make([]int, 4096))
	_, i := Row(api.Table{}, 0)
	equal(t, "limit", list(e, f, g, h, i), list(3, 3, 0, 0, 2))
}

func TestP3_3(t *testing.T) {
	a := tab(7, "b _ a", "1 2 3")
	other := []api.Table{tab(8, "b _ a", "1 2 3"), tab(7, "b _ a"), tab(7, "b _ a", "1 2 4"), tab(7, "b _ a", "1 _ 3"), {ID: 7, Name: "u", Columns: a.Columns}}
	for i, b := range other {
		equal(t, fmt.Sprint("other ", i), Same(a, b), false)
	}
	equal(t, "same", list(Same(a, tab(7, "b _ a", "1 2 3")), Same(api.Table{Columns: []api.Column{}}, api.Table{}), Same(invalid()[0], invalid()[0])), list(true, true, true))
	equal(t, "rows", list(SameRows(a, tab(1, "_ a b", "2 3 1")), SameRows(tab(0), tab(1)), SameRows(a, tab(7, "b _ a", "1 2 4")), SameRows(tab(1, "x x y"), tab(1, "x y y")), SameRows(a, tab(7, "b _", "1 2")), SameRows(a, other[1]), SameRows(tab(1, "_"), tab(1, "-"))), list(true, true, false, false, false, false, false))
	equal(t, "cells apart", SameRows(tab(1, "a1:b", "c"), tab(1, "a", "b1:c")), false)
	for i, x := range invalid() {
		equal(t, fmt.Sprint("invalid ", i), list(SameRows(x, x), Same(x, x)), list(false, true))
	}
}

func TestMore(t *testing.T) {
	a := tab(1, "a b")
	c, ok := Get([]api.Table{a}, api.Ref{Table: 1})
	equal(t, "first column", list(c, ok), list(a.Columns[0], true))
	b := tab(-1, "a b")
	equal(t, "one is not valid", list(SameRows(a, b), SameRows(b, a)), list(false, false))
}
