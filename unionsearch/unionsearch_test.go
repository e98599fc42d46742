package unionsearch

import (
	"fmt"
	"strings"
	"testing"

	"tablefinder/api"
	"tablefinder/fraction"
	"tablefinder/table"
)

func equal(t *testing.T, what string, got, want any) {
	t.Helper()
	if g, w := fmt.Sprintf("%+v", got), fmt.Sprintf("%+v", want); g != w {
		t.Errorf("%s:\n got %s\nwant %s", what, g, w)
	}
}

func list(l ...any) []any { return l }

func frac(n, d int) api.Fraction { f, _ := fraction.Of(n, d); return f }

// tab makes a table of columns, each a name and its words, where _ is null.
func tab(id int, columns ...string) api.Table {
	t := api.Table{ID: id, Name: "t"}
	for _, s := range columns {
		words := strings.Fields(s)
		c := api.Column{Name: words[0]}
		for _, w := range words[1:] {
			c.Cells = append(c.Cells, api.Cell{Null: w == "_", Text: strings.Trim(w, "_")})
		}
		t.Columns = append(t.Columns, c)
	}
	return t
}

var (
	wrong = tab(-1)
	wide  = tab(1, "a", "b", "c", "d", "e", "f", "g", "h", "i")
)

func TestP28_1(t *testing.T) {
	for _, x := range []struct {
		a, b  api.Table
		align []int
		score api.Fraction
	}{
		{tab(1, "city x y", "name p q"), tab(2, "name r s", "city u v"), []int{1, 0}, frac(1, 2)},
		{tab(1, "city x y", "n 1 2"), tab(2, "city x y"), []int{0, -1}, frac(1, 2)},
		{tab(1, "city x y"), tab(2, "n 1 2", "m 3 4", "city x y"), []int{2}, frac(1, 3)},
		{tab(1, "a 1"), tab(2, "b 2"), []int{-1}, frac(0, 1)}, {tab(1), tab(2), nil, frac(0, 1)}, {tab(1), tab(2, "a 1"), nil, frac(0, 1)}, {tab(1, "a 1"), tab(2), []int{-1}, frac(0, 1)},
	} {
		align, score, e := Align(x.a, x.b)
		equal(t, fmt.Sprint(x.a, x.b), list(align, score, e), list(x.align, x.score, 0))
	}
	for i, x := range []struct {
		a, b api.Table
		e    api.Errno
	}{{wrong, wide, 1}, {wide, wrong, 1}, {wide, tab(1), 3}, {tab(1), wide, 3}} {
		align, score, e := Align(x.a, x.b)
		equal(t, fmt.Sprint(i), list(align, score, e), list([]int{}, api.Fraction{}, x.e))
	}
	a := tab(5, "one 1 2", "two x y", "three 3 z")
	align, score, _ := Align(a, a)
	equal(t, "itself", list(align, score), list([]int{0, 1, 2}, frac(1, 1)))
}

func TestP28_2(t *testing.T) {
	a, b := tab(1, "a 1 2", "b x _"), tab(2, "c 3 4 5", "d p q r", "e 7 8 9")
	s, e := Stack(a, b, []int{2, -1})
	equal(t, "stack", list(s, e), list(tab(1, "a 1 2 7 8 9", "b x _ _ _ _"), 0))
	s, e = Stack(tab(1), b, nil)
	equal(t, "no columns", list(s, e), list(tab(1), 0))
	s, e = Stack(a, tab(3), []int{-1, -1})
	equal(t, "no rows", list(s, e), list(a, 0))
	long := api.Table{Columns: []api.Column{{Cells: make([]api.Cell, 4094)}}}
	for i, x := range []struct {
		a, b  api.Table
		align []int
		e     api.Errno
	}{{wrong, b, nil, 1}, {a, wrong, []int{-1, -1}, 1}, {a, b, []int{0}, 1}, {a, b, []int{0, -2}, 2}, {a, b, []int{3, 3}, 2}, {a, b, []int{1, 1}, 6}, {a, long, []int{0, 0}, 6}, {b, long, []int{0, -1, -1}, 3}, {a, long, []int{0, -1}, 0}} {
		s, e := Stack(x.a, x.b, x.align)
		equal(t, fmt.Sprint(i), list(e, e == api.OK || table.Same(s, api.Table{})), list(x.e, true))
	}
	s, _ = Stack(a, b, []int{0, 1})
	s.Columns[0].Cells[0].Text, s.Columns[0].Cells[2].Text = "!", "!"
	equal(t, "arguments", list(a, b), list(tab(1, "a 1 2", "b x _"), tab(2, "c 3 4 5", "d p q r", "e 7 8 9")))
}

func TestP28_3(t *testing.T) {
	q := tab(0, "city x y", "n 1 2")
	l := []api.Table{tab(1, "city x y"), tab(2, "n 2 1", "city y x"), tab(3, "o 9"), tab(4, "city x y"), wide}
	l[4].ID = 9
	got, e := Top(l, q, 9)
	equal(t, "top", list(got, e), list([]api.Match{{Table: 2, Align: []int{1, 0}, Score: frac(1, 1)}, {Table: 1, Align: []int{0, -1}, Score: frac(1, 2)}, {Table: 4, Align: []int{0, -1}, Score: frac(1, 2)}}, 0))
	got, _ = Top(l, q, 2)
	equal(t, "first", list(len(got), got[1].Table), list(2, 1))
	for i, x := range []struct {
		l []api.Table
		q api.Table
		k int
		e api.Errno
	}{{[]api.Table{wrong}, wrong, -1, 2}, {nil, wide, api.MaxK + 1, 2}, {[]api.Table{wrong}, wide, 0, 1}, {nil, wrong, 0, 1}, {nil, wide, 0, 3}, {l, q, 0, 0}, {nil, q, api.MaxK, 0}} {
		got, e := Top(x.l, x.q, x.k)
		equal(t, fmt.Sprint(i), list(got, e), list([]api.Match{}, x.e))
	}
}

func TestMore(t *testing.T) {
	a, b := tab(1, "a 1", "b x"), tab(2, "c 3", "d p")
	s, _ := Stack(a, b, []int{0, 1})
	equal(t, "stack", s, tab(1, "a 1 3", "b x p"))
	eight := wide
	eight.Columns = wide.Columns[:8]
	_, _, e := Align(eight, eight)
	_, f := Top(nil, eight, 1)
	equal(t, "most columns", list(e, f), list(0, 0))
}
