package lineage

import (
	"fmt"
	"math/rand"
	"strings"
	"testing"

	"tablefinder/api"
	"tablefinder/explain"
)

func equal(t *testing.T, what string, got, want any) {
	t.Helper()
	if g, w := fmt.Sprintf("%+v", got), fmt.Sprintf("%+v", want); g != w {
		t.Errorf("%s:\n got %s\nwant %s", what, g, w)
	}
}

func list(l ...any) []any { return l }

// tab makes a table of columns, each a name and its words.
func tab(id int, columns ...string) api.Table {
	t := api.Table{ID: id, Name: fmt.Sprint("t", id)}
	for _, s := range columns {
		words := strings.Fields(s)
		c := api.Column{Name: words[0]}
		for _, w := range words[1:] {
			c.Cells = append(c.Cells, api.Cell{Text: w})
		}
		t.Columns = append(t.Columns, c)
	}
	return t
}

func equalTo(column int, text string) api.Op {
	return api.Op{Kind: api.OpEqual, Column: column, Text: text}
}

func TestP39_1(t *testing.T) {
	a, b, c := tab(5, "a x x x y", "b 1 2 2 1"), tab(2, "a x x x", "b 1 2 2"), tab(3, "a x x", "b 2 2")
	links, e := Links([]api.Table{b, c, a})
	want := []api.Link{{From: 5, To: 2, Ops: []api.Op{equalTo(0, "x")}}, {From: 2, To: 3, Ops: []api.Op{equalTo(1, "2")}}}
	equal(t, "chain", list(links, e, Check([]api.Table{b, c, a}, links)), list(want, 0, true))
	links, _ = Links([]api.Table{tab(1, "a x"), tab(2, "a x"), tab(4, "a x")})
	equal(t, "equal ones", links, []api.Link{{From: 1, To: 2}, {From: 2, To: 4}})
	// fewest operations first, then the fewest cells, then the greatest ID
	links, _ = Links([]api.Table{tab(1, "a x y", "b 1 1"), tab(2, "a y x z w v u"), tab(3, "a x y z"), tab(4, "a x z y"), tab(7, "a x y")})
	equal(t, "nearest", links[len(links)-1], api.Link{From: 1, To: 7, Ops: []api.Op{{Kind: api.OpProject, Columns: []int{0}}}})
	links, _ = Links([]api.Table{tab(1, "a x y", "b 1 2"), tab(2, "a x z", "b 1 2"), tab(3, "a x z w", "b 1 2 3"), tab(7, "a x", "b 1")})
	equal(t, "greatest ID", links[len(links)-1], api.Link{From: 2, To: 7, Ops: []api.Op{equalTo(0, "x")}})
	for _, l := range [][]api.Table{{tab(2), tab(1)}, {tab(-1)}} {
		links, e := Links(l)
		equal(t, "invalid", list(links, e), list([]api.Link{}, api.ErrInvalid))
	}
	links, e = Links(nil)
	equal(t, "nothing", list(links, e), list([]api.Link{}, 0))
}

func link(from, to int) api.Link { return api.Link{From: from, To: to} }

func TestP39_2(t *testing.T) {
	links := []api.Link{link(2, 1), link(3, 2), link(9, 1), link(4, 3), link(6, 5), link(5, 6), link(5, 7), link(8, 8)}
	equal(t, "ancestors", list(Ancestors(links, 1), Ancestors(links, 4), Ancestors(links, 5), Ancestors(links, 7), Ancestors(links, 8), Ancestors(nil, 1)), list([]int{2, 3, 4}, []int{}, []int{6}, []int{5, 6}, []int{}, []int{}))
	equal(t, "roots", list(Roots([]api.Table{tab(9), tab(1), tab(4), tab(9)}, links), Roots(nil, links)), list([]int{4, 9}, []int{}))
	a, b, c := tab(5, "a x x x y", "b 1 2 2 1"), tab(2, "a x x x", "b 1 2 2"), tab(3, "a x x x", "b 1 2 2")
	l := []api.Table{b, c, a}
	x := []api.Op{equalTo(0, "x")}
	for i, y := range []struct {
		links []api.Link
		want  bool
	}{
		{nil, true}, {[]api.Link{{From: 5, To: 2, Ops: x}, {From: 2, To: 3}}, true}, {[]api.Link{{From: 5, To: 2, Ops: x}, {From: 5, To: 2, Ops: x}}, false}, {[]api.Link{{From: 3, To: 2}}, false}, {[]api.Link{{From: 5, To: 2}}, false}, {[]api.Link{{From: 5, To: 5}}, false}, {[]api.Link{{From: 9, To: 2, Ops: x}}, false}, {[]api.Link{{From: 5, To: 9, Ops: x}}, false},
		{[]api.Link{{From: 5, To: 2, Ops: []api.Op{{}}}}, false}, {[]api.Link{{From: 5, To: 2, Ops: []api.Op{x[0], x[0], x[0], x[0], x[0], x[0]}}}, false}, {[]api.Link{{From: 5, To: 2, Ops: []api.Op{x[0], x[0]}}}, true},
	} {
		equal(t, fmt.Sprint(i), Check(l, y.links), y.want)
	}
	renamed := tab(2, "c x x x", "b 1 2 2")
	equal(t, "names", Check([]api.Table{renamed, a}, []api.Link{{From: 5, To: 2, Ops: x}}), false)
}

// TestAll compares links with all derivations of all tables.
func TestAll(t *testing.T) {
	r := rand.New(rand.NewSource(1))
	for range 300 {
		var l []api.Table
		for id := range 6 {
			a := tab(id, "a", "b")
			if len(l) > 0 && r.Intn(2) == 0 {
				a, _ = explain.Apply(l[r.Intn(len(l))], []api.Op{equalTo(0, "x"), {Kind: api.OpDistinct}, {Kind: api.OpProject, Columns: []int{0}}}[r.Intn(3)])
				a.ID = id
			} else {
				for range r.Intn(5) {
					for j := range a.Columns {
						a.Columns[j].Cells = append(a.Columns[j].Cells, api.Cell{Text: []string{"x", "y"}[r.Intn(2)]})
					}
				}
			}
			l = append(l, a)
		}
		var want []api.Link
		for _, to := range l {
			var best *api.Link
			nearest := 0
			for _, from := range l {
				ops, ok := explain.Find(from, to)
				n := cells(from)
				if !ok || n < cells(to) || n == cells(to) && from.ID >= to.ID {
					continue
				}
				if best == nil || len(ops) < len(best.Ops) || len(ops) == len(best.Ops) && n <= nearest {
					best, nearest = &api.Link{From: from.ID, To: to.ID, Ops: ops}, n
				}
			}
			if best != nil {
				want = append(want, *best)
			}
		}
		links, e := Links(l)
		equal(t, fmt.Sprint(l), list(links, e, Check(l, links)), list(want, 0, true))
		for _, a := range l {
			last := cells(a)
			for _, id := range Ancestors(links, a.ID) {
				equal(t, "ancestor", id != a.ID && cells(l[id]) >= last, true)
				last = cells(l[id])
			}
		}
	}
}

func TestMissing(t *testing.T) {
	none := []api.Op{{Kind: api.OpProject}}
	equal(t, "missing", list(Check([]api.Table{tab(5, "a x")}, []api.Link{{From: 5, To: 9, Ops: none}}), Check([]api.Table{tab(5)}, []api.Link{{From: -9, To: 5}})), list(false, false))
}
