package view

import (
	"fmt"
	"math/rand"
	"strings"
	"testing"

	"tablefinder/api"
	"tablefinder/join"
	"tablefinder/table"
)

func equal(t *testing.T, what string, got, want any) {
	t.Helper()
	if g, w := fmt.Sprintf("%+v", got), fmt.Sprintf("%+v", want); g != w {
		t.Errorf("%s:\n got %s\nwant %s", what, g, w)
	}
}

func list(l ...any) []any { return l }

// tab makes a table of columns of words, where _ is null.
func tab(id int, columns ...string) api.Table {
	t := api.Table{ID: id, Name: fmt.Sprint("t", id)}
	for i, words := range columns {
		c := api.Column{Name: fmt.Sprint(id, ".", i)}
		for _, w := range strings.Fields(words) {
			c.Cells = append(c.Cells, api.Cell{Null: w == "_", Text: strings.Trim(w, "_")})
		}
		t.Columns = append(t.Columns, c)
	}
	return t
}

func ref(t, c int) api.Ref { return api.Ref{Table: t, Column: c} }

func filter(t, c, kind int, text string) api.Filter {
	return api.Filter{Column: ref(t, c), Kind: kind, Text: text}
}

var (
	tables = []api.Table{tab(1, "x x y _", "1 2 _ 4"), tab(2, "x y z", "p q r"), tab(3, "s")}
	one    = api.Path{Start: 1, Steps: []api.Step{{From: ref(1, 0), To: ref(2, 0)}}}
)

func TestP34_1(t *testing.T) {
	long := strings.Repeat("x", 1025)
	filters := func(n int) []api.Filter {
		var l []api.Filter
		for range n {
			l = append(l, filter(9, 9, 9, ""))
		}
		return l
	}
	for i, x := range []struct {
		l []api.Table
		v api.View
		e api.Errno
	}{
		{[]api.Table{{ID: -1}}, api.View{Path: one}, 1}, {tables, api.View{Path: api.Path{Start: 9}, Filters: filters(9)}, 21}, {tables, api.View{Path: one, Filters: filters(9)}, 3}, {tables, api.View{Path: one, Columns: make([]api.Ref, 65), Filters: filters(1)}, 3}, {tables, api.View{Path: one, Filters: filters(8)}, 5},
		{tables, api.View{Path: one, Columns: []api.Ref{ref(3, 0)}, Filters: []api.Filter{filter(1, 0, 0, "")}}, 5}, {tables, api.View{Path: one, Columns: []api.Ref{ref(1, 2)}}, 5}, {tables, api.View{Path: one, Columns: []api.Ref{ref(1, -1)}}, 5}, {tables, api.View{Path: one, Filters: []api.Filter{filter(3, 0, 0, "")}}, 5},
		{tables, api.View{Path: one, Filters: []api.Filter{filter(2, 1, 0, "")}}, 2}, {tables, api.View{Path: one, Filters: []api.Filter{filter(2, 1, 5, "")}}, 2}, {tables, api.View{Path: one, Filters: []api.Filter{filter(2, 1, 1, long)}}, 2}, {tables, api.View{Path: one, Filters: []api.Filter{filter(2, 1, 3, "x")}}, 2}, {tables, api.View{Path: one, Filters: []api.Filter{filter(2, 1, 4, "x")}}, 2},
		{tables, api.View{Path: one, Filters: []api.Filter{filter(2, 1, 1, long[1:]), filter(1, 0, 2, "\xff")}, Columns: make([]api.Ref, 0)}, 0},
	} {
		a, e := Evaluate(x.l, x.v)
		n, f := Count(x.l, x.v)
		equal(t, fmt.Sprint(i), list(Valid(x.l, x.v), e, f, n, e == api.OK || table.Same(a, api.Table{})), list(x.e, x.e, x.e, 0, true))
	}
}

func TestP34_2(t *testing.T) {
	v := api.View{Path: one, Columns: []api.Ref{ref(2, 1), ref(1, 1), ref(2, 1)}}
	want := tab(1, "p p q", "1 2 _", "p p q")
	want.Columns[0].Name, want.Columns[1].Name, want.Columns[2].Name = "2.1", "1.1", "2.1"
	a, e := Evaluate(tables, v)
	n, f := Count(tables, v)
	equal(t, "view", list(a, n, e, f), list(want, 3, 0, 0))
	a.Columns[0].Cells[0].Text = "!"
	equal(t, "no shared memory", list(a.Columns[2].Cells[0].Text, tables[1].Columns[1].Cells[0].Text), list("p", "p"))
	for _, x := range []struct {
		f    []api.Filter
		want string
	}{
		{[]api.Filter{filter(1, 1, api.FilterEqual, "2")}, "2"}, {[]api.Filter{filter(1, 1, api.FilterOther, "1")}, "2"}, {[]api.Filter{filter(1, 1, api.FilterNull, "")}, "_"}, {[]api.Filter{filter(1, 1, api.FilterFull, "")}, "1 2"}, {[]api.Filter{filter(2, 1, api.FilterEqual, "p"), filter(1, 1, api.FilterOther, "1")}, "2"}, {[]api.Filter{filter(1, 1, api.FilterEqual, "")}, ""},
	} {
		v := api.View{Path: one, Filters: x.f, Columns: []api.Ref{ref(1, 1)}}
		a, _ := Evaluate(tables, v)
		n, _ := Count(tables, v)
		equal(t, x.want, list(a.Columns[0].Cells, n), list(tab(1, x.want).Columns[0].Cells, len(strings.Fields(x.want))))
	}
	a, e = Evaluate(tables, api.View{Path: one})
	n, f = Count(tables, api.View{Path: one})
	equal(t, "no columns", list(a, n, e, f), list(api.Table{ID: 1, Name: "t1"}, 0, 0, 0))
	same := strings.Repeat("x ", 70)
	l := []api.Table{tab(1, same), tab(2, same)}
	_, e = Evaluate(l, api.View{Path: one, Filters: []api.Filter{filter(1, 0, 1, "y")}})
	n, f = Count(l, api.View{Path: one})
	equal(t, "limit", list(e, n, f), list(3, 0, 3))
}

func TestP34_3(t *testing.T) {
	a := tab(1, "a b b", "1 2 _")
	for i, x := range []struct {
		rows api.Table
		want bool
	}{
		{tab(2, "a b", "1 2"), true}, {tab(2, "a b", "_ _"), true}, {tab(2, "b", "1"), false}, {tab(2, "_", "1"), true}, {tab(2, "_ _", "1 3"), false}, {tab(2, "", ""), true}, {tab(2, "a"), false}, {tab(2), false}, {tab(2, "b b b b", "2 2 2 2"), true}, {tab(2, "_", "_"), true},
	} {
		equal(t, fmt.Sprint(i), Contains(a, x.rows), x.want)
	}
	equal(t, "empty", list(Contains(tab(1), tab(2)), Contains(tab(1, ""), tab(2, "")), Contains(tab(1, ""), tab(2, "_"))), list(true, true, false))
	Contains(tab(1, "a b", "c"), tab(1, "a", "b c"))
	Contains(tab(1, "a", "b c"), tab(1, "a b", "c"))
}

func TestConsequences(t *testing.T) {
	all := api.View{Path: one, Columns: []api.Ref{ref(1, 0), ref(1, 1), ref(2, 0), ref(2, 1)}}
	a, _ := Evaluate(tables, all)
	b, _ := join.Path(tables, one)
	equal(t, "join", a, b)
	r := rand.New(rand.NewSource(1))
	for range 300 {
		v := all
		last := 3
		for range r.Intn(5) {
			f := filter(1+r.Intn(2), r.Intn(2), 1+r.Intn(4), "")
			if f.Kind < api.FilterNull {
				f.Text = []string{"x", "y", "1", "p"}[r.Intn(4)]
			}
			v.Filters = append(v.Filters, f)
			n, _ := Count(tables, v)
			equal(t, "no more rows", n <= last, true)
			last = n
		}
		w := v
		w.Filters = nil
		for i := range v.Filters {
			w.Filters = append(w.Filters, v.Filters[len(v.Filters)-1-i])
		}
		a, _ := Evaluate(tables, v)
		b, _ := Evaluate(tables, w)
		equal(t, "exchanged", a, b)
	}
}

func TestLaterTables(t *testing.T) {
	v := api.View{Path: api.Path{Start: 2}, Columns: []api.Ref{ref(2, 1)}}
	a, e := Evaluate(tables, v)
	equal(t, "path without the first table", list(a.Name, len(a.Columns), e), list("t2", 1, 0))
	v = api.View{Path: api.Path{Start: 3}, Columns: []api.Ref{ref(3, 0), ref(2, 0)}}
	equal(t, "not of the path", Valid(tables, v), api.ErrMissing)
	many := make([]api.Ref, api.MaxColumns)
	for i := range many {
		many[i] = ref(3, 0)
	}
	equal(t, "most columns", Valid(tables, api.View{Path: api.Path{Start: 3}, Columns: many}), api.OK)
}
