package route

import (
	"fmt"
	"math/rand"
	"slices"
	"strings"
	"testing"

	"tablefinder/api"
	"tablefinder/join"
	"tablefinder/order"
	"tablefinder/path"
	"tablefinder/table"
)

func equal(t *testing.T, what string, got, want any) {
	t.Helper()
	if g, w := fmt.Sprintf("%+v", got), fmt.Sprintf("%+v", want); g != w {
		t.Errorf("%s:\n got %s\nwant %s", what, g, w)
	}
}

func list(l ...any) []any { return l }

// tab makes a table of columns of words.
func tab(id int, columns ...string) api.Table {
	t := api.Table{ID: id}
	for _, words := range columns {
		var c api.Column
		for _, w := range strings.Fields(words) {
			c.Cells = append(c.Cells, api.Cell{Text: w})
		}
		t.Columns = append(t.Columns, c)
	}
	return t
}

func edge(a, i, b, j int) api.Relation {
	return api.Relation{A: api.Ref{Table: a, Column: i}, B: api.Ref{Table: b, Column: j}}
}

func to(a, i, b, j int) api.Step {
	return api.Step{From: api.Ref{Table: a, Column: i}, To: api.Ref{Table: b, Column: j}}
}

var tables = []api.Table{tab(1, "a b", "x y"), tab(2, "a a", "c d"), tab(3, "c d e", "x x y"), tab(7)}

func TestP33_1(t *testing.T) {
	edges := []api.Relation{edge(2, 1, 3, 0), edge(1, 0, 2, 0), edge(1, 1, 3, 1), edge(1, 0, 2, 0), edge(2, 0, 1, 0), edge(1, 0, 1, 1), edge(1, 0, 9, 0), edge(1, 0, 3, 2), edge(1, -1, 3, 0), edge(1, 0, 7, 0)}
	long, short := api.Path{Start: 1, Steps: []api.Step{to(1, 0, 2, 0), to(2, 1, 3, 0)}}, api.Path{Start: 1, Steps: []api.Step{to(1, 1, 3, 1)}}
	for _, x := range []struct {
		from, to, steps int
		want            []api.Path
	}{
		{1, 3, 4, []api.Path{long, short}}, {1, 3, 1, []api.Path{short}}, {1, 3, 0, nil}, {1, 1, 0, []api.Path{{Start: 1}}}, {1, 7, 4, nil}, {7, 7, 4, []api.Path{{Start: 7}}},
		{3, 1, 2, []api.Path{{Start: 3, Steps: []api.Step{to(3, 0, 2, 1), to(2, 0, 1, 0)}}, {Start: 3, Steps: []api.Step{to(3, 1, 1, 1)}}}},
	} {
		l, e := Paths(tables, edges, x.from, x.to, x.steps)
		equal(t, fmt.Sprint(x), list(l, e), list(x.want, 0))
	}
	l, _ := Paths(tables, []api.Relation{edge(1, 0, 2, 0), edge(1, 1, 2, 0)}, 1, 2, 1)
	equal(t, "two relations", len(l), 2)
	for i, x := range []struct {
		l               []api.Table
		from, to, steps int
		e               api.Errno
	}{{[]api.Table{tab(2), tab(1)}, 9, 9, -1, 1}, {tables, 9, 9, -1, 2}, {tables, 9, 9, 5, 2}, {tables, 9, 1, 0, 5}, {tables, 1, 9, 0, 5}, {tables, 9, 9, 0, 5}, {tables, 1, 2, 4, 0}} {
		l, e := Paths(x.l, edges, x.from, x.to, x.steps)
		_, f := Top(x.l, edges, x.from, x.to, x.steps, 1)
		equal(t, fmt.Sprint(i), list(e, f, e == api.OK || l == nil), list(x.e, x.e, true))
	}
	wide := []api.Table{{ID: 1, Columns: make([]api.Column, 33)}, {ID: 2, Columns: make([]api.Column, 32)}}
	var many []api.Relation
	for i := range 33 {
		for j := range 32 {
			many = append(many, edge(1, i, 2, j))
		}
	}
	l, e := Paths(wide, many, 1, 2, 1)
	m, f := Paths(wide, many[:1024], 1, 2, 1)
	equal(t, "limit", list(l, e, len(m), f), list([]api.Path{}, 3, 1024, 0))
}

func TestP33_2(t *testing.T) {
	r := func(lost, most int, p api.Path) api.Route {
		return api.Route{Path: p, Report: api.Report{Lost: lost, Most: most}}
	}
	p := func(start int, steps ...api.Step) api.Path { return api.Path{Start: start, Steps: steps} }
	a, b := to(1, 0, 2, 0), to(2, 0, 3, 0)
	routes := []api.Route{r(0, 9, p(9, a, b)), r(1, 1, p(9, b, b)), r(1, 2, p(1, b)), r(1, 2, p(2, a)), r(1, 2, p(2, b)), r(1, 2, p(1, a, a)), r(1, 2, p(1, a, b)), r(1, 2, p(2, a, a))}
	for i, x := range routes {
		for j, y := range routes {
			want := 0
			if i != j {
				want = 1
			}
			if i < j {
				want = -1
			}
			equal(t, fmt.Sprint(i, j), Cmp(x, y), want)
		}
	}
}

func TestP33_3(t *testing.T) {
	_, e := Top([]api.Table{{ID: -1}}, nil, 1, 2, -1, -1)
	_, f := Top(tables, nil, 1, 2, 1, api.MaxK+1)
	l, g := Top(tables, nil, 1, 1, 1, 0)
	equal(t, "range", list(e, f, l, g), list(2, 2, []api.Route{}, 0))
	r := rand.New(rand.NewSource(1))
	for range 300 {
		var l []api.Table
		for id := range 5 {
			var columns []string
			for range 2 {
				columns = append(columns, []string{"a b c", "a a b", "b c c", "d a b"}[r.Intn(4)])
			}
			l = append(l, tab(id, columns...))
		}
		var edges []api.Relation
		for range r.Intn(9) {
			edges = append(edges, edge(r.Intn(5), r.Intn(3), r.Intn(6), r.Intn(2)))
		}
		from, target, steps, k := r.Intn(5), r.Intn(5), r.Intn(5), r.Intn(4)
		want := all(l, edges, from, target, steps)
		paths, e := Paths(l, edges, from, target, steps)
		equal(t, "paths", list(paths, e), list(want, 0))
		var routes []api.Route
		for _, p := range want {
			report, _ := path.Report(l, p)
			routes = append(routes, api.Route{Path: p, Report: report})
		}
		slices.SortFunc(routes, Cmp)
		got, e := Top(l, edges, from, target, steps, k)
		equal(t, "top", list(got, e), list(routes[:min(k, len(routes))], 0))
	}
}

// all returns the routes by trying all steps of all relations.
func all(l []api.Table, edges []api.Relation, from, to, steps int) []api.Path {
	var found []api.Path
	var try func(p api.Path, ids []int)
	try = func(p api.Path, ids []int) {
		at := ids[len(ids)-1]
		if at == to {
			found = append(found, p)
			return
		}
		for _, r := range edges {
			for _, s := range []api.Step{{From: r.A, To: r.B}, {From: r.B, To: r.A}} {
				_, ok := table.Get(l, s.From)
				q := api.Path{Start: from, Steps: append(slices.Clone(p.Steps), s)}
				if ok && s.From.Table == at && !slices.Contains(ids, s.To.Table) && len(q.Steps) <= steps && join.Valid(l, q) == api.OK {
					try(q, append(slices.Clone(ids), s.To.Table))
				}
			}
		}
	}
	try(api.Path{Start: from}, []int{from})
	slices.SortFunc(found, order.Paths)
	return slices.CompactFunc(found, func(a, b api.Path) bool { return order.Paths(a, b) == 0 })
}

func TestMost(t *testing.T) {
	l, e := Top(tables, []api.Relation{edge(1, 0, 2, 0)}, 1, 2, 1, api.MaxK)
	equal(t, "k", list(len(l), e), list(1, 0))
}

// TestLongest has routes of the most steps that only differ in their last one.
func TestLongest(t *testing.T) {
	l := []api.Table{tab(1, "a"), tab(2, "a"), tab(3, "a"), tab(4, "a"), tab(5, "a", "b", "c")}
	edges := []api.Relation{edge(1, 0, 2, 0), edge(2, 0, 3, 0), edge(3, 0, 4, 0), edge(4, 0, 5, 0), edge(4, 0, 5, 1), edge(4, 0, 5, 2)}
	var want []api.Path
	for column := range 3 {
		want = append(want, api.Path{Start: 1, Steps: []api.Step{to(1, 0, 2, 0), to(2, 0, 3, 0), to(3, 0, 4, 0), to(4, 0, 5, column)}})
	}
	got, e := Paths(l, edges, 1, 5, 4)
	equal(t, "longest", list(got, e), list(want, 0))
}
