package worker

import (
	"fmt"
	"math"
	"math/rand"
	"strings"
	"testing"

	"tablefinder/api"
	"tablefinder/fraction"
	"tablefinder/search"
)

func equal(t *testing.T, what string, got, want any) {
	t.Helper()
	if g, w := fmt.Sprintf("%+v", got), fmt.Sprintf("%+v", want); g != w {
		t.Errorf("%s:\n got %s\nwant %s", what, g, w)
	}
}

func list(l ...any) []any { return l }

func frac(n, d int) api.Fraction { f, _ := fraction.Of(n, d); return f }

// tab makes a table of columns, each a name and its words, where _ is null.
func tab(id int, columns ...string) api.Table {
	t := api.Table{ID: id}
	for _, s := range columns {
		words := strings.Fields(s)
		c := api.Column{Name: words[0]}
		for _, w := range words[1:] {
			c.Cells = append(c.Cells, api.Cell{Null: w == "_", Text: strings.Trim(w, "_")})
		}
		t.Columns = append(t.Columns, c)
	}
	return t
}

var all = []api.Permission{{User: "u", Allow: true, Column: -1}}

func TestP44_1(t *testing.T) {
	task := func(from, to int) api.Task { return api.Task{From: from, To: to} }
	for _, x := range []struct {
		n, workers int
		want       []api.Task
		e          api.Errno
	}{{10, 3, []api.Task{task(0, 3), task(3, 6), task(6, 10)}, 0}, {2, 3, []api.Task{task(0, 0), task(0, 1), task(1, 2)}, 0}, {0, 2, []api.Task{task(0, 0), task(0, 0)}, 0}, {1024, 1, []api.Task{task(0, 1024)}, 0}, {5, 0, nil, 2}, {5, -1, nil, 2}, {5, 9, nil, 2}, {-1, 1, nil, 2}, {1025, 8, nil, 2}, {math.MaxInt, math.MaxInt, nil, 2}} {
		l, e := Split(x.n, x.workers)
		equal(t, fmt.Sprint(x), list(l, e), list(x.want, x.e))
	}
}

func TestP44_2(t *testing.T) {
	l := []api.Table{tab(1, "a x"), tab(2, "a x"), tab(3, "a x")}
	q := api.Query{Kind: api.AskOverlap, K: 9, Table: tab(0, "a x")}
	a, e := Part(all, "u", l, q, api.Task{From: 1, To: 2})
	equal(t, "part", list(a, e), list(api.Answer{Hits: []api.Hit{{Ref: api.Ref{Table: 2}, Score: frac(1, 1)}}}, 0))
	a, e = Part(all, "u", l, q, api.Task{From: 3, To: 3})
	equal(t, "empty", list(a, e), list(api.Answer{}, 0))
	for _, kind := range []int{api.AskRoutes, api.AskExample} {
		q := api.Query{Kind: kind, K: 9, Table: tab(0, "a x"), Column: 1, Other: 3}
		want, _ := search.Ask(all, "u", l, q)
		a, e := Part(all, "u", l, q, api.Task{From: 0, To: 0})
		b, f := Part(all, "u", l, q, api.Task{From: 1, To: 3})
		equal(t, "whole", list(a, e, b, f, len(want.Routes)+len(want.Found) > 0), list(want, 0, api.Answer{}, 0, true))
	}
	for i, x := range []struct {
		rules []api.Permission
		l     []api.Table
		q     api.Query
		t     api.Task
		e     api.Errno
	}{
		{[]api.Permission{{}}, l, q, api.Task{From: -1}, 2}, {[]api.Permission{{}}, l, q, api.Task{From: 2, To: 1}, 2}, {[]api.Permission{{}}, l, q, api.Task{To: 4}, 2}, {[]api.Permission{{}}, l, q, api.Task{To: 1}, 22}, {all, []api.Table{l[0], l[2], l[1]}, api.Query{}, api.Task{To: 2}, 1}, {all, l, api.Query{}, api.Task{To: 2}, 2},
		{all, l, api.Query{Kind: 1}, api.Task{}, 5}, {all, l, api.Query{Kind: 6, Column: 9}, api.Task{From: 1, To: 2}, 5}, {all, l, api.Query{Kind: 7}, api.Task{From: 1, To: 2}, 3}, {all, []api.Table{l[1], l[0]}, api.Query{Kind: 7}, api.Task{From: 1, To: 2}, 1},
	} {
		a, e := Part(x.rules, "u", x.l, x.q, x.t)
		equal(t, fmt.Sprint(i), list(a, e), list(api.Answer{}, x.e))
	}
}

func TestP44_3Merge(t *testing.T) {
	hit := func(table, n int) api.Hit { return api.Hit{Ref: api.Ref{Table: table}, Score: frac(n, 3)} }
	match := func(table, n int) api.Match {
		return api.Match{Table: table, Align: []int{table}, Score: frac(n, 3)}
	}
	correlated := func(key, value, n int) api.Correlated {
		return api.Correlated{Key: api.Ref{Table: key}, Value: api.Ref{Table: key, Column: value}, Score: frac(n, 3)}
	}
	l := []api.Answer{
		{Hits: []api.Hit{hit(5, 2), hit(6, 1)}, Matches: []api.Match{match(5, 2)}, Correlated: []api.Correlated{correlated(2, 2, 1)}},
		{Hits: []api.Hit{hit(7, 3), hit(1, 2)}, Matches: []api.Match{match(4, 2), match(9, 1)}, Correlated: []api.Correlated{correlated(2, 1, 1), correlated(1, 7, 1)}, Routes: []api.Route{{Path: api.Path{Start: 1}}, {}}},
		{Routes: []api.Route{{Path: api.Path{Start: 2}}}, Found: []api.Found{{Rows: 3}}},
	}
	a, e := Merge(api.Query{K: 2}, l)
	want := api.Answer{Hits: []api.Hit{hit(7, 3), hit(1, 2)}, Matches: []api.Match{match(4, 2), match(5, 2)}, Correlated: []api.Correlated{correlated(1, 7, 1), correlated(2, 1, 1)}, Routes: l[1].Routes, Found: l[2].Found}
	equal(t, "merge", list(a, e), list(want, 0))
	a.Hits[0].Score.Num.Words[0], a.Matches[0].Align[0], a.Correlated[0].Score.Den.Words[0], a.Routes[0].Path.Start = 9, 9, 9, 9
	b, _ := Merge(api.Query{K: 2}, l)
	equal(t, "arguments", b, want)
	for _, x := range []struct {
		k, n int
		e    api.Errno
	}{{-1, 0, 2}, {api.MaxK + 1, 0, 2}, {0, 0, 0}, {1, 1, 0}, {api.MaxK, 2, 0}} {
		a, e := Merge(api.Query{K: x.k}, l[:1])
		equal(t, fmt.Sprint(x.k), list(len(a.Hits), e), list(x.n, x.e))
	}
}

func TestP44_3Run(t *testing.T) {
	r := rand.New(rand.NewSource(1))
	equal(t, "sequence", list(sequence([]int{5, -1, 2, math.MinInt}, 4), sequence(nil, 2)), list([]int{1, 3, 2, 0}, []int{0, 1}))
	words := func(n int) string {
		s := ""
		for range n {
			s += " " + []string{"a", "b", "c", "1", "2", "3", "_"}[r.Intn(7)]
		}
		return s
	}
	for range 500 {
		var l []api.Table
		for id := range r.Intn(7) {
			n := 2 + r.Intn(4)
			l = append(l, tab(1+id, "a"+words(n), "b"+words(n), "c"+words(n)))
		}
		rules := all
		if r.Intn(3) == 0 {
			rules = append(rules[:1:1], api.Permission{User: "u", Table: 2, Column: r.Intn(3) - 1})
		}
		q := api.Query{Kind: 1 + r.Intn(7), Column: r.Intn(4), Other: r.Intn(3), K: r.Intn(5), Table: tab(0, "a"+words(3), "b"+words(3), "c"+words(3))}
		want, e := search.Ask(rules, "u", l, q)
		a, f := Run(rules, "u", l, q, 1+r.Intn(8), []int{r.Intn(9) - 4, r.Intn(9), r.Int()})
		equal(t, fmt.Sprint(q), list(a, f), list(want, e))
	}
	for i, x := range []struct {
		l       []api.Table
		workers int
		e       api.Errno
	}{{nil, 0, 2}, {nil, 9, 2}, {make([]api.Table, 1025), 1, 2}, {nil, 1, 22}, {make([]api.Table, 2), 2, 22}} {
		a, e := Run([]api.Permission{{}}, "u", x.l, api.Query{}, x.workers, nil)
		equal(t, fmt.Sprint(i), list(a, e), list(api.Answer{}, x.e))
	}
	_, e := Run(all, "u", make([]api.Table, 2), api.Query{}, 2, nil)
	_, f := Run(all, "u", nil, api.Query{Kind: 1}, 2, nil)
	_, g := Run(all, "u", nil, api.Query{Kind: 6}, 2, nil)
	equal(t, "errors", list(e, f, g), list(1, 5, 5))
}
