package difference

import (
	"fmt"
	"math/rand"
	"strconv"
	"strings"
	"testing"

	"tablefinder/api"
	"tablefinder/table"
)

func equal(t *testing.T, what string, got, want any) {
	t.Helper()
	if g, w := fmt.Sprintf("%+v", got), fmt.Sprintf("%+v", want); g != w {
		t.Errorf("%s:\n got %s\nwant %s", what, g, w)
	}
}

func list(l ...any) []any { return l }

// cells makes cells of words, where _ is null.
func cells(words string) []api.Cell {
	var l []api.Cell
	for _, w := range strings.Fields(words) {
		l = append(l, api.Cell{Null: w == "_", Text: strings.Trim(w, "_")})
	}
	return l
}

func tab(id int, columns ...string) api.Table {
	t := api.Table{ID: id, Name: fmt.Sprint("t", id)}
	for i, words := range columns {
		t.Columns = append(t.Columns, api.Column{Name: fmt.Sprint("c", i), Cells: cells(words)})
	}
	return t
}

// delta makes a delta of keys and rows.
func delta(drop string, add ...string) api.Delta {
	d := api.Delta{Drop: cells(drop)}
	for _, r := range add {
		d.Add = append(d.Add, cells(r))
	}
	return d
}

var wrong = tab(-1, "a")

func TestP37_1(t *testing.T) {
	a := tab(1, "c a b", "x x y", "_ 1 2", "3 2 1")
	equal(t, "keys", list(Keys(a), Keys(wrong), Keys(tab(1, "", "")), Keys(tab(1))), list([]int{0, 3}, []int{}, []int{0, 1}, []int{}))
	s, e := Sorted(a, 0)
	equal(t, "sorted", list(s, e), list(tab(1, "a b c", "x y x", "1 2 _", "2 1 3"), 0))
	for _, x := range []struct {
		t   api.Table
		key int
		e   api.Errno
	}{{wrong, 9, 1}, {a, 4, 2}, {a, -1, 2}, {a, 1, 20}, {a, 2, 20}} {
		s, e := Sorted(x.t, x.key)
		equal(t, fmt.Sprint(x.key), list(s, e), list(api.Table{}, x.e))
	}
}

func TestP37_2(t *testing.T) {
	a, b := tab(1, "c a b d", "1 2 3 4"), tab(2, "e d b a", "5 4 _ 2")
	d, e := Of(a, b, 0)
	equal(t, "of", list(d, e), list(delta("b c", "b _", "e 5"), 0))
	d, e = Of(a, tab(1, "d c b a", "4 1 3 2"), 0)
	equal(t, "none", list(d, e), list(api.Delta{}, 0))
	other := tab(2, "e d b a", "5 4 _ 2")
	other.Columns[1].Name = "x"
	for i, x := range []struct {
		a, b api.Table
		key  int
		e    api.Errno
	}{{wrong, tab(1, "a"), 9, 1}, {tab(1, "a"), wrong, 9, 1}, {a, other, 9, 1}, {a, tab(1, "a"), 0, 1}, {a, b, 2, 2}, {a, b, -1, 2}, {a, b, 1, 20}, {b, a, 1, 20}, {tab(1, "a a"), tab(1, "a"), 0, 20}, {tab(1, "a"), tab(1, "a a"), 0, 20}} {
		d, e := Of(x.a, x.b, x.key)
		equal(t, fmt.Sprint(i), list(d, e), list(api.Delta{}, x.e))
	}
}

func TestP37_3(t *testing.T) {
	a := tab(1, "c a b", "1 2 3")
	d := delta("a c", "z 9", "a 7")
	b, e := Apply(a, 0, d)
	equal(t, "apply", list(b, e), list(tab(1, "b z a", "3 9 7"), 0))
	back, e := Turn(a, 0, d)
	equal(t, "turn", list(back, e), list(delta("a z", "a 2", "c 1"), 0))
	back.Add[0][0].Text, back.Drop[0].Text, b.Columns[0].Cells[1].Text = "!", "!", "!"
	equal(t, "arguments", list(a, d), list(tab(1, "c a b", "1 2 3"), delta("a c", "z 9", "a 7")))
	long := api.Table{Columns: []api.Column{{Cells: make([]api.Cell, 4096)}}}
	for i := range long.Columns[0].Cells {
		long.Columns[0].Cells[i].Text = strconv.Itoa(i)
	}
	bad := delta("")
	bad.Drop = []api.Cell{{Null: true, Text: "x"}}
	worse := delta("", "a \xff")
	for i, x := range []struct {
		a   api.Table
		key int
		d   api.Delta
		e   api.Errno
	}{
		{wrong, 9, d, 1}, {a, 9, delta("", "a"), 1}, {a, 9, bad, 1}, {a, 9, worse, 1}, {a, 9, d, 2}, {a, -1, d, 2}, {tab(1, "a a", "1 2"), 0, delta("x"), 20}, {a, 0, delta("x"), 26}, {a, 0, delta("a a"), 26}, {a, 0, delta("_"), 26},
		{a, 0, delta("", "a 1"), 26}, {a, 0, delta("", "_ 1"), 26}, {a, 0, delta("", "x 1", "x 2"), 26}, {a, 0, delta("a", "a 1"), 0}, {long, 0, delta("", "x"), 3}, {long, 0, delta("0", "x"), 0}, {long, 0, delta("x", "x"), 26}, {a, 0, api.Delta{}, 0},
	} {
		b, e := Apply(x.a, x.key, x.d)
		back, f := Turn(x.a, x.key, x.d)
		equal(t, fmt.Sprint(i), list(e, f, e == api.OK || table.Same(b, api.Table{}) && back.Add == nil && back.Drop == nil), list(x.e, x.e, true))
	}
}

func TestConsequences(t *testing.T) {
	r := rand.New(rand.NewSource(1))
	for range 1000 {
		random := func() api.Table {
			a := tab(1, "", "")
			for _, k := range r.Perm(6)[:r.Intn(6)] {
				a.Columns[0].Cells = append(a.Columns[0].Cells, api.Cell{Text: strconv.Itoa(k)})
				a.Columns[1].Cells = append(a.Columns[1].Cells, []api.Cell{{Text: "x"}, {Text: "y"}, {Null: true}}[r.Intn(3)])
			}
			return a
		}
		a, b := random(), random()
		d, e := Of(a, b, 0)
		c, f := Apply(a, 0, d)
		equal(t, "of", list(e, f, table.SameRows(b, c)), list(0, 0, true))
		back, e := Turn(a, 0, d)
		reverse, _ := Of(b, a, 0)
		equal(t, "turn", list(back, e), list(reverse, 0))
		again, e := Apply(c, 0, back)
		equal(t, "back", list(table.SameRows(again, a), e), list(true, 0))
	}
}
