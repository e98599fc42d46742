package example

import (
	"fmt"
	"math/rand"
	"slices"
	"strings"
	"testing"

	"tablefinder/api"
	"tablefinder/graph"
	"tablefinder/order"
	"tablefinder/route"
	"tablefinder/table"
	"tablefinder/view"
)

func equal(t *testing.T, what string, got, want any) {
	t.Helper()
	if g, w := fmt.Sprintf("%+v", got), fmt.Sprintf("%+v", want); g != w {
		t.Errorf("%s:\n got %s\nwant %s", what, g, w)
	}
}

func list(l ...any) []any { return l }

// tab makes a table of columns of words, where _ is null.
func tab(id int, columns ...string) api.Table {
	t := api.Table{ID: id, Name: "t"}
	for _, words := range columns {
		var c api.Column
		for _, w := range strings.Fields(words) {
			c.Cells = append(c.Cells, api.Cell{Null: w == "_", Text: strings.Trim(w, "_")})
		}
		t.Columns = append(t.Columns, c)
	}
	return t
}

func ref(t, c int) api.Ref { return api.Ref{Table: t, Column: c} }

func edge(a, i, b, j int) api.Relation { return api.Relation{A: ref(a, i), B: ref(b, j)} }

func TestP35_1(t *testing.T) {
	for i, x := range []struct {
		q api.Table
		e api.Errno
	}{{tab(-1), 1}, {tab(1), 3}, {tab(1, "a", "b", "c", "d"), 3}, {tab(1, "a"), 0}, {tab(1, "", "", ""), 0}} {
		equal(t, fmt.Sprint(i), Valid(x.q), x.e)
	}
}

func TestP35_2(t *testing.T) {
	l := []api.Table{tab(1, "a", "b"), tab(3, "a"), tab(5, "a", "c"), tab(6)}
	edges := []api.Relation{edge(3, 0, 1, 0), edge(3, 0, 5, 0), edge(1, 0, 1, 1), edge(1, 0, 6, 0), edge(1, 1, 5, 1)}
	step := func(a, i, b, j int) api.Step { return api.Step{From: ref(a, i), To: ref(b, j)} }
	p := func(start int, steps ...api.Step) api.Path { return api.Path{Start: start, Steps: steps} }
	for steps, want := range [][]api.Path{
		{p(1), p(3), p(5), p(6)},
		{p(1), p(1, step(1, 0, 3, 0)), p(1, step(1, 1, 5, 1)), p(3), p(3, step(3, 0, 5, 0)), p(5), p(6)},
		{p(1), p(1, step(1, 0, 3, 0)), p(1, step(1, 0, 3, 0), step(3, 0, 5, 0)), p(1, step(1, 1, 5, 1)), p(1, step(1, 1, 5, 1), step(5, 0, 3, 0)), p(3), p(3, step(3, 0, 1, 0), step(1, 1, 5, 1)), p(3, step(3, 0, 5, 0)), p(5), p(6)},
	} {
		got, e := Paths(l, edges, steps)
		equal(t, fmt.Sprint(steps), list(got, e), list(want, 0))
	}
	wide := []api.Table{{ID: 1, Columns: make([]api.Column, 33)}, {ID: 2, Columns: make([]api.Column, 31)}}
	var many []api.Relation
	for i := range 33 {
		for j := range 31 {
			many = append(many, edge(1, i, 2, j))
		}
	}
	for i, x := range []struct {
		l     []api.Table
		edges []api.Relation
		steps int
		e     api.Errno
	}{{[]api.Table{tab(2), tab(1)}, nil, -1, 1}, {l, nil, -1, 2}, {l, nil, 5, 2}, {wide, many, 1, 3}, {wide, many[:1022], 4, 0}, {wide, many, 0, 0}} {
		got, e := Paths(x.l, x.edges, x.steps)
		_, f := Find(x.l, x.edges, tab(1, "a"), x.steps, 1)
		equal(t, fmt.Sprint(i), list(e, f, e == api.OK || got == nil), list(x.e, x.e, true))
	}
	r := rand.New(rand.NewSource(1))
	for range 200 {
		l := []api.Table{tab(1, "a", "b"), tab(2, "a", "b"), tab(4, "a"), tab(7, "a")}
		var edges []api.Relation
		for range r.Intn(6) {
			edges = append(edges, edge([]int{1, 2, 4, 7}[r.Intn(4)], r.Intn(2), []int{1, 2, 4, 7, 9}[r.Intn(5)], r.Intn(2)))
		}
		steps := r.Intn(5)
		var want []api.Path
		for _, a := range l {
			want = append(want, api.Path{Start: a.ID})
			for _, b := range l {
				if routes, _ := route.Paths(l, edges, a.ID, b.ID, steps); a.ID < b.ID {
					want = append(want, routes...)
				}
			}
		}
		slices.SortFunc(want, order.Paths)
		got, _ := Paths(l, edges, steps)
		equal(t, "routes", got, want)
	}
}

func TestP35_3Cmp(t *testing.T) {
	f := func(start, steps, rows int, columns ...int) api.Found {
		v := api.View{Path: api.Path{Start: start, Steps: make([]api.Step, steps)}}
		for _, c := range columns {
			v.Columns = append(v.Columns, ref(c, 0))
		}
		return api.Found{View: v, Rows: rows}
	}
	l := []api.Found{f(9, 0, 9), f(9, 1, 1), f(1, 1, 2, 9), f(2, 1, 2, 1), f(2, 1, 2, 1, 0), f(2, 1, 2, 1, 1), f(2, 1, 2, 2, 0)}
	for i, x := range l {
		for j, y := range l {
			got := Cmp(x, y)
			if got < 0 != (i < j) || got > 0 != (i > j) {
				t.Error(i, j, got)
			}
		}
	}
}

// find returns all answers by trying all columns of all paths.
func find(l []api.Table, edges []api.Relation, q api.Table, steps int) []api.Found {
	paths, _ := Paths(l, edges, steps)
	var found []api.Found
	for _, p := range paths {
		ids := []int{p.Start}
		for _, s := range p.Steps {
			ids = append(ids, s.To.Table)
		}
		var refs []api.Ref
		for _, r := range table.Refs(l) {
			c, _ := table.Get(l, r)
			if slices.Contains(ids, r.Table) && slices.ContainsFunc(c.Cells, func(c api.Cell) bool { return !c.Null }) {
				refs = append(refs, r)
			}
		}
		var try func(columns []api.Ref)
		try = func(columns []api.Ref) {
			if len(columns) < len(q.Columns) {
				for _, r := range refs {
					try(append(slices.Clone(columns), r))
				}
				return
			}
			has := func(id int) bool {
				return slices.ContainsFunc(columns, func(r api.Ref) bool { return r.Table == id })
			}
			v := api.View{Path: p, Columns: columns}
			if a, e := view.Evaluate(l, v); e == api.OK && view.Contains(a, q) && (len(p.Steps) == 0 || has(ids[0]) && has(ids[len(ids)-1])) {
				found = append(found, api.Found{View: v, Rows: table.Rows(a)})
			}
		}
		try(nil)
	}
	slices.SortFunc(found, Cmp)
	return found
}

func TestP35_3(t *testing.T) {
	l := []api.Table{tab(1, "Paris Rome", "x Paris", "_ _")}
	got, e := Find(l, nil, tab(0, "Paris"), 0, 9)
	equal(t, "example", list(got, e), list([]api.Found{{View: api.View{Path: api.Path{Start: 1}, Columns: []api.Ref{ref(1, 0)}}, Rows: 2}, {View: api.View{Path: api.Path{Start: 1}, Columns: []api.Ref{ref(1, 1)}}, Rows: 2}}, 0))
	for i, x := range []struct {
		l        []api.Table
		q        api.Table
		steps, k int
		e        api.Errno
	}{{[]api.Table{tab(-1)}, tab(-1), -1, -1, 2}, {l, tab(-1), -1, api.MaxK + 1, 2}, {[]api.Table{tab(-1)}, tab(-1), -1, 0, 1}, {[]api.Table{tab(-1)}, tab(1), -1, 0, 3}, {[]api.Table{tab(-1)}, tab(1, ""), -1, 0, 1}, {l, tab(1, ""), -1, 0, 2}, {l, tab(1, ""), 5, 0, 2}, {l, tab(1, ""), 0, 0, 0}, {nil, tab(1, ""), 4, api.MaxK, 0}} {
		got, e := Find(x.l, nil, x.q, x.steps, x.k)
		equal(t, fmt.Sprint(i), list(got, e), list([]api.Found{}, x.e))
	}
	same := strings.Repeat("x ", 70)
	got, e = Find([]api.Table{tab(1, same), tab(2, same)}, []api.Relation{edge(1, 0, 2, 0)}, tab(0, "x"), 1, 9)
	equal(t, "too many rows", list(len(got), e), list(2, 0))
	zero := api.Fraction{Den: api.Big{Words: []uint32{1}}}
	r := rand.New(rand.NewSource(1))
	words := func(n, kinds int) string {
		s := ""
		for range n {
			s += " " + []string{"a", "b", "_", "c", "d"}[r.Intn(kinds)]
		}
		return s
	}
	answers := 0
	for range 300 {
		l := []api.Table{tab(1, words(3, 5), words(3, 5)), tab(2, words(2, 4), words(2, 3)), tab(5, words(r.Intn(3), 4))}
		edges, _ := graph.Build(l, zero)
		q := tab(0, slices.Repeat([]string{words(1+r.Intn(2), 4)}, 1+r.Intn(3))...)
		if r.Intn(2) == 0 && len(q.Columns) > 1 {
			q.Columns[1] = tab(0, words(table.Rows(q), 4)).Columns[0]
		}
		steps, k := r.Intn(3), r.Intn(9)
		want := find(l, edges, q, steps)
		answers += len(want)
		got, e := Find(l, edges, q, steps, k)
		equal(t, fmt.Sprint(l, q), list(got, e), list(want[:min(k, len(want))], 0))
	}
	equal(t, "some", answers > 1000, true)
}
