package search

import (
	"fmt"
	"math/rand"
	"strings"
	"testing"

	"tablefinder/access"
	"tablefinder/api"
	"tablefinder/containment"
	"tablefinder/copies"
	"tablefinder/correlation"
	"tablefinder/example"
	"tablefinder/fraction"
	"tablefinder/graph"
	"tablefinder/overlap"
	"tablefinder/posting"
	"tablefinder/profile"
	"tablefinder/route"
	"tablefinder/unionsearch"
)

func equal(t *testing.T, what string, got, want any) {
	t.Helper()
	if g, w := fmt.Sprintf("%+v", got), fmt.Sprintf("%+v", want); g != w {
		t.Errorf("%s:\n got %s\nwant %s", what, g, w)
	}
}

func list(l ...any) []any { return l }

// tab makes a table of columns, each a name and its words, where _ is null.
func tab(id int, columns ...string) api.Table {
	t := api.Table{ID: id}
	for _, s := range columns {
		words := strings.Fields(s)
		c := api.Column{Name: words[0]}
		for _, w := range words[1:] {
			c.Cells = append(c.Cells, api.Cell{Null: w == "_", Text: strings.Trim(w, "_")})
		}
		t.Columns = append(t.Columns, c)
	}
	return t
}

func permission(allow bool, table, column int) api.Permission {
	return api.Permission{User: "u", Allow: allow, Table: table, Column: column}
}

var wide = tab(1, "a", "b", "c", "d", "e", "f", "g", "h", "i")

func TestP43_1(t *testing.T) {
	two := tab(1, "a x", "b y")
	for i, x := range []struct {
		q api.Query
		e api.Errno
	}{
		{api.Query{}, 2}, {api.Query{Kind: 8}, 2}, {api.Query{Kind: -1}, 2}, {api.Query{Kind: 1, K: -1, Table: tab(-1)}, 2}, {api.Query{Kind: 1, K: api.MaxK + 1}, 2}, {api.Query{Kind: 1, Column: 9, Table: tab(-1)}, 1}, {api.Query{Kind: 6, Table: tab(-1)}, 1},
		{api.Query{Kind: 1, Table: two, Column: 2}, 5}, {api.Query{Kind: 1, Table: two, Column: -1}, 5}, {api.Query{Kind: 2, Table: two, Column: 2}, 5}, {api.Query{Kind: 4, Table: two, Column: 2}, 5}, {api.Query{Kind: 4, Table: two, Other: 2}, 5}, {api.Query{Kind: 4, Table: two, Other: -1}, 5}, {api.Query{Kind: 1, Table: two, Column: 1, Other: 9}, 0}, {api.Query{Kind: 4, Table: two, Other: 1, K: api.MaxK}, 0},
		{api.Query{Kind: 3, Table: wide}, 3}, {api.Query{Kind: 3, Column: 9}, 0}, {api.Query{Kind: 5, Table: wide, Other: 99}, 0}, {api.Query{Kind: 6, Table: wide, Column: -5}, 0}, {api.Query{Kind: 7}, 3}, {api.Query{Kind: 7, Table: wide}, 3}, {api.Query{Kind: 7, Table: two}, 0},
	} {
		_, f := Ask([]api.Permission{permission(true, 0, -1)}, "u", []api.Table{tab(1, "x a")}, x.q)
		if x.q.Kind == 6 && x.e == 0 {
			f = 0
		}
		equal(t, fmt.Sprint(i), list(Valid(x.q), f), list(x.e, x.e))
	}
}

// answers returns what the layers say of visible tables.
func answers(l []api.Table, q api.Query) (a api.Answer, e api.Errno) {
	x, _ := posting.Build(l)
	half, _ := fraction.Of(1, 2)
	edges, _ := graph.Build(l, half)
	switch q.Kind {
	case api.AskOverlap:
		a.Hits, _, e = overlap.Top(x, profile.Values(q.Table.Columns[q.Column]), q.K)
	case api.AskContain:
		a.Hits, _, e = containment.Top(api.CoverQuery, x, profile.Values(q.Table.Columns[q.Column]), q.K)
	case api.AskUnion:
		a.Matches, e = unionsearch.Top(l, q.Table, q.K)
	case api.AskCorrelated:
		a.Correlated, e = correlation.Top(l, q.Table.Columns[q.Column], q.Table.Columns[q.Other], q.K)
	case api.AskCopies:
		a.Matches, e = copies.Top(l, q.Table, q.K)
	case api.AskRoutes:
		a.Routes, e = route.Top(l, edges, q.Column, q.Other, 3, q.K)
	case api.AskExample:
		a.Found, e = example.Find(l, edges, q.Table, 2, q.K)
	}
	return a, e
}

func random(r *rand.Rand) []api.Table {
	var l []api.Table
	words := func(n int) string {
		s := ""
		for range n {
			s += " " + []string{"a", "b", "c", "1", "2", "3", "_"}[r.Intn(7)]
		}
		return s
	}
	for id := range 4 {
		n := 2 + r.Intn(4)
		l = append(l, tab(1+id, "a"+words(n), "b"+words(n), "c"+words(n)))
	}
	return l
}

func TestP43_2(t *testing.T) {
	bad := []api.Permission{{}}
	l := []api.Table{tab(2, "a"), tab(1, "a")}
	_, e := Ask(bad, "u", l, api.Query{})
	_, f := Ask(nil, "u", l, api.Query{})
	_, g := Ask(nil, "u", l[:1], api.Query{})
	equal(t, "errors", list(e, f, g), list(22, 1, 2))
	for kind := 1; kind <= 7; kind++ {
		a, e := Ask(nil, "u", l[:1], api.Query{Kind: kind, Table: tab(1, "a x"), Column: 0, K: 9})
		want := api.OK
		if kind == api.AskRoutes {
			want = api.ErrMissing
		}
		equal(t, "nobody", list(a, e), list(api.Answer{}, want))
	}
	r := rand.New(rand.NewSource(1))
	some := 0
	for range 1000 {
		l := random(r)
		rules := []api.Permission{permission(true, 0, -1)}
		for range r.Intn(4) {
			rules = append(rules, permission(r.Intn(3) == 0, r.Intn(5), r.Intn(4)-1))
		}
		q := api.Query{Kind: 1 + r.Intn(7), Column: r.Intn(3), Other: r.Intn(3), K: r.Intn(5), Table: random(r)[0]}
		switch q.Kind {
		case api.AskRoutes:
			q.Column, q.Other = r.Intn(6), r.Intn(6)
		case api.AskExample:
			q.Table = tab(0, "x a", "y b")
		}
		want, f := answers(access.Visible(rules, "u", l), q)
		a, e := Ask(rules, "u", l, q)
		equal(t, fmt.Sprint(q), list(a, e), list(want, f))
		if e != api.OK {
			equal(t, "empty", a, api.Answer{})
		} else if len(a.Hits)+len(a.Matches)+len(a.Correlated)+len(a.Routes)+len(a.Found) > 0 {
			some++
		}
		// What may not be seen changes nothing.
		for i := range l {
			for j := range l[i].Columns {
				if c := &l[i].Columns[j]; !access.May(rules, "u", api.Ref{Table: l[i].ID, Column: j}) {
					c.Name = "hidden"
					for n := range c.Cells {
						c.Cells[n] = api.Cell{Text: "a"}
					}
				}
			}
		}
		b, f := Ask(rules, "u", l, q)
		equal(t, "hidden", list(b, f), list(a, e))
	}
	equal(t, "some", some > 300, true)
}

func TestMost(t *testing.T) {
	eight, three := wide, wide
	eight.Columns, three.Columns = wide.Columns[:8], wide.Columns[:3]
	equal(t, "columns", list(Valid(api.Query{Kind: api.AskUnion, Table: eight}), Valid(api.Query{Kind: api.AskExample, Table: three})), list(0, 0))
}
