package graph

import (
	"fmt"
	"math/rand"
	"strings"
	"testing"

	"tablefinder/api"
	"tablefinder/fraction"
	"tablefinder/relation"
)

func equal(t *testing.T, what string, got, want any) {
	t.Helper()
	if g, w := fmt.Sprintf("%+v", got), fmt.Sprintf("%+v", want); g != w {
		t.Errorf("%s:\n got %s\nwant %s", what, g, w)
	}
}

func list(l ...any) []any { return l }

func frac(n, d int) api.Fraction { f, _ := fraction.Of(n, d); return f }

// tab makes a table of columns of words, where _ is null.
func tab(id int, columns ...string) api.Table {
	t := api.Table{ID: id}
	for _, words := range columns {
		var c api.Column
		for _, w := range strings.Fields(words) {
			c.Cells = append(c.Cells, api.Cell{Null: w == "_", Text: strings.Trim(w, "_")})
		}
		t.Columns = append(t.Columns, c)
	}
	return t
}

func edge(a, i, b, j int) api.Relation {
	return api.Relation{A: api.Ref{Table: a, Column: i}, B: api.Ref{Table: b, Column: j}, Common: 1, MostA: a, MostB: b}
}

func TestP30_1(t *testing.T) {
	l := []api.Table{tab(1, "a b c d", "x y x _"), tab(2, "a b"), tab(5, "y y z", "_ _ d")}
	show := func(least api.Fraction) string {
		edges, e := Build(l, least)
		s := fmt.Sprint(int(e))
		for _, r := range edges {
			s += fmt.Sprintf(" %d.%d-%d.%d", r.A.Table, r.A.Column, r.B.Table, r.B.Column)
		}
		return s
	}
	equal(t, "build", list(show(frac(0, 1)), show(frac(1, 2)), show(frac(1, 1))), list("0 1.0-2.0 1.0-5.1 1.1-5.0", "0 1.0-2.0 1.0-5.1 1.1-5.0", "0 1.0-2.0 1.0-5.1"))
	for i, x := range []struct {
		l     []api.Table
		least api.Fraction
		e     api.Errno
	}{{[]api.Table{tab(2), tab(1)}, frac(2, 1), 1}, {l, frac(-1, 2), 2}, {l, frac(3, 2), 2}, {nil, frac(1, 1), 0}, {nil, api.Fraction{}, 0}} {
		edges, e := Build(x.l, x.least)
		equal(t, fmt.Sprint(i), list(edges, e), list([]api.Relation{}, x.e))
	}
	r := rand.New(rand.NewSource(1))
	for range 300 {
		var l []api.Table
		for id := range 3 {
			var columns []string
			for range r.Intn(3) {
				words := ""
				for range 4 {
					words += " " + []string{"a", "b", "c", "d", "e", "_"}[r.Intn(6)]
				}
				columns = append(columns, words)
			}
			l = append(l, tab(3*id, columns...))
		}
		least := frac(r.Intn(5), 4)
		var want []api.Relation
		for n, a := range l {
			for i := range a.Columns {
				for _, b := range l[n+1:] {
					for j := range b.Columns {
						x, _ := relation.Of(a, i, b, j)
						if x.Common > 0 && (fraction.Cmp(relation.Contained(x), least) >= 0 || fraction.Cmp(relation.Contained(relation.Turn(x)), least) >= 0) {
							want = append(want, x)
						}
					}
				}
			}
		}
		edges, _ := Build(l, least)
		equal(t, "all pairs", edges, want)
	}
}

func TestP30_2(t *testing.T) {
	edges := []api.Relation{edge(1, 0, 2, 0), edge(2, 1, 3, 0), edge(3, 0, 4, 0), edge(2, 0, 2, 1), edge(4, 0, 1, 1)}
	equal(t, "from", list(From(edges, 2), From(edges, 9), From(nil, 1)), list([]api.Relation{relation.Turn(edges[0]), edges[1], edges[3]}, []api.Relation{}, []api.Relation{}))
	l := []api.Table{tab(7), tab(1), tab(2), tab(9), tab(3), tab(2)}
	for _, x := range []struct {
		edges []api.Relation
		want  [][]int
	}{{nil, [][]int{{1}, {2}, {3}, {7}, {9}}}, {edges[:1], [][]int{{1, 2}, {3}, {7}, {9}}}, {edges, [][]int{{1, 2, 3}, {7}, {9}}}, {[]api.Relation{edge(9, 0, 1, 0), edge(7, 0, 3, 0)}, [][]int{{1, 9}, {2}, {3, 7}}}, {[]api.Relation{edge(1, 0, 4, 0), edge(4, 0, 2, 0)}, [][]int{{1}, {2}, {3}, {7}, {9}}}} {
		equal(t, fmt.Sprint(x.edges), Groups(l, x.edges), x.want)
	}
	equal(t, "no tables", Groups(nil, edges), [][]int{})
}
