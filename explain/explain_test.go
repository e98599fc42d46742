package explain

import (
	"fmt"
	"math/rand"
	"slices"
	"strings"
	"testing"

	"tablefinder/api"
	"tablefinder/table"
)

func equal(t *testing.T, what string, got, want any) {
	t.Helper()
	if g, w := fmt.Sprintf("%+v", got), fmt.Sprintf("%+v", want); g != w {
		t.Errorf("%s:\n got %s\nwant %s", what, g, w)
	}
}

func list(l ...any) []any { return l }

// tab makes a table of columns, each a name and its words, where _ is null.
func tab(id int, columns ...string) api.Table {
	t := api.Table{ID: id, Name: "t"}
	for _, s := range columns {
		words := strings.Fields(s)
		c := api.Column{Name: words[0]}
		for _, w := range words[1:] {
			c.Cells = append(c.Cells, api.Cell{Null: w == "_", Text: strings.Trim(w, "_")})
		}
		t.Columns = append(t.Columns, c)
	}
	return t
}

func op(kind, column int, text string, columns ...int) api.Op {
	return api.Op{Kind: kind, Column: column, Text: text, Columns: columns}
}

func TestP38_1Apply(t *testing.T) {
	a := tab(7, "a x _ y x x", "b 2 1 _ 2 1")
	for _, x := range []struct {
		o    api.Op
		want api.Table
	}{
		{op(api.OpEqual, 0, "x"), tab(7, "a x x x", "b 2 2 1")}, {op(api.OpEqual, 0, ""), tab(7, "a", "b")}, {op(api.OpFull, 0, ""), tab(7, "a x y x x", "b 2 _ 2 1")}, {op(api.OpProject, 0, "", 1, 0, 1), tab(7, "b 2 1 _ 2 1", "a x _ y x x", "b 2 1 _ 2 1")}, {op(api.OpProject, 0, ""), tab(7)},
		{op(api.OpDistinct, 0, ""), tab(7, "a x _ y x", "b 2 1 _ 1")}, {op(api.OpSort, 1, ""), tab(7, "a y _ x x x", "b _ 1 1 2 2")}, {op(api.OpSort, 0, ""), tab(7, "a _ x x x y", "b 1 2 2 1 _")},
	} {
		b, e := Apply(a, x.o)
		equal(t, fmt.Sprint(x.o), list(b, e), list(x.want, 0))
	}
	long := strings.Repeat("x", 1025)
	for _, o := range []api.Op{{}, op(6, 0, ""), op(-1, 0, ""), op(api.OpEqual, 2, "x"), op(api.OpEqual, -1, "x"), op(api.OpEqual, 0, long), op(api.OpEqual, 0, "x", 0), op(api.OpFull, 0, "x"), op(api.OpFull, 2, ""), op(api.OpFull, 0, "", 1), op(api.OpSort, 0, "x"), op(api.OpSort, -1, ""), op(api.OpSort, 0, "", 0), op(api.OpProject, 1, "", 0), op(api.OpProject, 0, "x", 0), op(api.OpProject, 0, "", 2), op(api.OpProject, 0, "", -1), op(api.OpProject, 0, "", make([]int, 65)...), op(api.OpDistinct, 1, ""), op(api.OpDistinct, 0, "x"), op(api.OpDistinct, 0, "", 0)} {
		b, e := Apply(a, o)
		c, f := Run(a, []api.Op{op(api.OpSort, 0, ""), o})
		d, g := Apply(tab(-1), o)
		equal(t, fmt.Sprint(o), list(b, e, c, f, d, g), list(api.Table{}, 24, api.Table{}, 24, api.Table{}, 1))
	}
	_, e := Apply(a, op(api.OpEqual, 0, long[1:]))
	_, f := Apply(a, op(api.OpProject, 0, "", make([]int, 64)...))
	equal(t, "at most", list(e, f), list(0, 0))
	b, _ := Apply(a, op(api.OpProject, 0, "", 0, 0))
	b.Columns[0].Cells[0].Text = "!"
	equal(t, "no shared memory", list(b.Columns[1].Cells[0].Text, a.Columns[0].Cells[0].Text), list("x", "x"))
}

func TestP38_1Run(t *testing.T) {
	a := tab(7, "a x _ y x x", "b 2 1 _ 2 1")
	b, e := Run(a, []api.Op{op(api.OpFull, 1, ""), op(api.OpProject, 0, "", 0), op(api.OpDistinct, 0, ""), op(api.OpSort, 0, "")})
	equal(t, "run", list(b, e), list(tab(7, "a _ x"), 0))
	b, e = Run(a, nil)
	b.Columns[0].Cells[0].Text = "!"
	equal(t, "nothing", list(a, e), list(tab(7, "a x _ y x x", "b 2 1 _ 2 1"), 0))
	d := op(api.OpDistinct, 0, "")
	_, e = Run(tab(-1), []api.Op{d, d, d, d, d, {}})
	_, f := Run(tab(-1), []api.Op{{}})
	_, g := Run(a, []api.Op{d, d, d, d, d})
	equal(t, "errors", list(e, f, g), list(3, 1, 0))
}

func sameColumns(a, b api.Table) bool {
	a.ID, a.Name, b.ID, b.Name = 0, "", 0, ""
	return table.Same(a, b)
}

// derive returns the first derivation by trying all, in the order of the document.
func derive(a, b api.Table) ([]api.Op, bool) {
	var project []api.Op
	var columns []int
	for _, c := range b.Columns {
		columns = append(columns, slices.IndexFunc(a.Columns, func(d api.Column) bool { return d.Name == c.Name }))
	}
	if slices.Contains(columns, -1) {
		return nil, false
	}
	if !slices.Equal(columns, numbers(len(a.Columns))) {
		project = []api.Op{{Kind: api.OpProject, Columns: columns}}
	}
	filters := [][]api.Op{nil}
	for j, c := range a.Columns {
		filters = append(filters, []api.Op{op(api.OpFull, j, "")})
		texts := map[string]bool{}
		for _, cell := range c.Cells {
			texts[cell.Text] = texts[cell.Text] || !cell.Null
		}
		for _, s := range []string{"", "x", "y", "z"} {
			if texts[s] {
				filters = append(filters, []api.Op{op(api.OpEqual, j, s)})
			}
		}
	}
	for n := range 5 {
		for _, f := range filters {
			for _, d := range [][]api.Op{nil, {op(api.OpDistinct, 0, "")}} {
				for s := -1; s < len(b.Columns); s++ {
					l := slices.Concat(f, project, d)
					if s >= 0 {
						l = append(l, op(api.OpSort, s, ""))
					}
					if c, e := Run(a, l); len(l) == n && e == api.OK && sameColumns(c, b) {
						return l, true
					}
				}
			}
		}
	}
	return nil, false
}

func TestP38_2(t *testing.T) {
	a := tab(1, "city Bonn Ulm Bonn", "size 2 1 3")
	for i, x := range []struct {
		a, b api.Table
		want []api.Op
		ok   bool
	}{
		{a, tab(2, "size 2 3"), []api.Op{op(api.OpEqual, 0, "Bonn"), op(api.OpProject, 0, "", 1)}, true}, {a, a, nil, true}, {a, tab(2, "city Ulm Bonn Bonn", "size 1 2 3"), []api.Op{op(api.OpSort, 1, "")}, true}, {a, tab(2, "x"), nil, false}, {a, tab(2, "city Rom"), nil, false}, {a, tab(2), []api.Op{op(api.OpProject, 0, "")}, true}, {tab(1), tab(2), nil, true},
		{tab(1, "x a", "x b"), tab(2, "x a", "x a"), []api.Op{op(api.OpProject, 0, "", 0, 0)}, true}, {tab(1, "x a", "x b"), tab(2, "x a", "x b"), nil, false}, {tab(1, "x a", "x a"), tab(2, "x a", "x a"), []api.Op{op(api.OpProject, 0, "", 0, 0)}, true}, {tab(-1), tab(2), nil, false}, {tab(1), tab(-1), nil, false}, {tab(1), tab(2, "x"), nil, false}, {tab(1, "a _"), tab(2, "a"), []api.Op{op(api.OpFull, 0, "")}, true},
	} {
		l, ok := Find(x.a, x.b)
		equal(t, fmt.Sprint(i), list(l, ok), list(x.want, x.ok))
	}
	r := rand.New(rand.NewSource(1))
	random := func() api.Table {
		a := tab(1, "a", "b", "c")
		for range r.Intn(6) {
			for j := range a.Columns {
				a.Columns[j].Cells = append(a.Columns[j].Cells, []api.Cell{{Text: "x"}, {Text: "y"}, {Null: true}, {Text: ""}}[r.Intn(2+r.Intn(3))])
			}
		}
		if r.Intn(5) == 0 {
			a.Columns[2].Name = "a"
		}
		return a
	}
	found := 0
	for range 3000 {
		a := random()
		b := random()
		if r.Intn(4) > 0 {
			b = a
			for range r.Intn(5) {
				o := []api.Op{op(api.OpEqual, r.Intn(3), "x"), op(api.OpFull, r.Intn(3), ""), op(api.OpDistinct, 0, ""), op(api.OpSort, r.Intn(3), ""), op(api.OpProject, 0, "", r.Intn(3), r.Intn(3))}[r.Intn(5)]
				if c, e := Apply(b, o); e == api.OK {
					b = c
				}
			}
		}
		want, ok := derive(a, b)
		l, good := Find(a, b)
		equal(t, fmt.Sprint(a, b), list(l, good), list(want, ok))
		if good {
			found++
			c, e := Run(a, l)
			equal(t, "run", list(sameColumns(b, c), e), list(true, 0))
		}
	}
	equal(t, "some", found > 1000, true)
}
