package path

import (
	"fmt"
	"math/rand"
	"strings"
	"testing"

	"tablefinder/api"
	"tablefinder/join"
	"tablefinder/table"
)

func equal(t *testing.T, what string, got, want any) {
	t.Helper()
	if g, w := fmt.Sprintf("%+v", got), fmt.Sprintf("%+v", want); g != w {
		t.Errorf("%s:\n got %s\nwant %s", what, g, w)
	}
}

func list(l ...any) []any { return l }

// tab makes a table of columns of words, where _ is null.
func tab(id int, columns ...string) api.Table {
	t := api.Table{ID: id}
	for _, words := range columns {
		var c api.Column
		for _, w := range strings.Fields(words) {
			c.Cells = append(c.Cells, api.Cell{Null: w == "_", Text: strings.Trim(w, "_")})
		}
		t.Columns = append(t.Columns, c)
	}
	return t
}

func to(a, i, b, j int) api.Step {
	return api.Step{From: api.Ref{Table: a, Column: i}, To: api.Ref{Table: b, Column: j}}
}

func TestExamples(t *testing.T) {
	l := []api.Table{tab(1, "x x"), tab(2, "x x x y"), tab(3, "_ x")}
	p := api.Path{Start: 1, Steps: []api.Step{to(1, 0, 2, 0)}}
	r, e := Report(l, p)
	equal(t, "example", list(r, e), list(api.Report{Rows: 6, Most: 3, Unused: []int{1}}, 0))
	n, e := Each(l, p)
	equal(t, "each", list(n, e), list([]int{3, 3}, 0))
	u, e := Upper(l, p)
	equal(t, "upper", list(u, e), list(3, 0))
	r, _ = Report(l, api.Path{Start: 3})
	u, _ = Upper(l, api.Path{Start: 3})
	equal(t, "no steps", list(r, u), list(api.Report{Rows: 2, Most: 1}, 1))
	r, _ = Report(l, api.Path{Start: 3, Steps: []api.Step{to(3, 0, 1, 0)}})
	equal(t, "lost", r, api.Report{Rows: 2, Lost: 1, Most: 2, Unused: []int{0}})
	r, _ = Report([]api.Table{tab(1, ""), tab(2, "a _")}, api.Path{Start: 1, Steps: []api.Step{to(1, 0, 2, 0)}})
	equal(t, "no rows", r, api.Report{Unused: []int{2}})
}

func TestErrors(t *testing.T) {
	l := []api.Table{tab(1, "x x"), tab(2, "x x x y")}
	for i, x := range []struct {
		l []api.Table
		p api.Path
	}{{[]api.Table{tab(2), tab(1)}, api.Path{}}, {l, api.Path{Start: 1, Steps: make([]api.Step, 5)}}, {l, api.Path{}}, {l, api.Path{Start: 1, Steps: []api.Step{to(2, 0, 1, 0)}}}, {nil, api.Path{}}, {l, api.Path{Start: 1}}} {
		want := join.Valid(x.l, x.p)
		a, e := Each(x.l, x.p)
		b, f := Report(x.l, x.p)
		c, g := Upper(x.l, x.p)
		equal(t, fmt.Sprint(i), list(e, f, g), list(want, want, want))
		if want != api.OK {
			equal(t, fmt.Sprint(i), list(a, b, c), list([]int{}, api.Report{}, 0))
		}
	}
}

// TestRows compares what is counted with the rows of the path.
func TestRows(t *testing.T) {
	r := rand.New(rand.NewSource(1))
	for range 3000 {
		var l []api.Table
		for id := range 5 {
			var columns []string
			for range 2 {
				words := ""
				for range 4 {
					words += " " + []string{"a", "b", "c", "_"}[r.Intn(4)]
				}
				columns = append(columns, words)
			}
			l = append(l, tab(id, columns...))
		}
		order := r.Perm(5)
		p := api.Path{Start: order[0]}
		lost := 0
		for n := range 1 + r.Intn(5) {
			if n > 0 {
				p.Steps = append(p.Steps, to(order[r.Intn(n)], r.Intn(2), order[n], r.Intn(2)))
			}
			rows, _ := join.Rows(l, p)
			each, used := make([]int, table.Rows(l[order[0]])), map[[2]int]bool{}
			for _, row := range rows {
				each[row[0]]++
				for n, i := range row {
					used[[2]int{n, i}] = true
				}
			}
			want := api.Report{Rows: len(rows), Unused: make([]int, n)}
			for _, k := range each {
				want.Most = max(want.Most, k)
				if k == 0 {
					want.Lost++
				}
			}
			for k := range n {
				for i := range 4 {
					if !used[[2]int{k + 1, i}] {
						want.Unused[k]++
					}
				}
			}
			got, e := Report(l, p)
			counts, _ := Each(l, p)
			equal(t, fmt.Sprint(l, p), list(got, counts, e), list(want, each, 0))
			upper, _ := Upper(l, p)
			equal(t, "bounds", want.Most <= upper && want.Lost >= lost, true)
			lost = want.Lost
		}
	}
}

// TestMany has more rows than could be made.
func TestMany(t *testing.T) {
	same := strings.Repeat("x ", 4096)
	l := []api.Table{tab(1, same), tab(2, same), tab(3, same), tab(4, same), tab(5, same)}
	p := api.Path{Start: 1, Steps: []api.Step{to(1, 0, 2, 0), to(2, 0, 3, 0), to(1, 0, 4, 0), to(4, 0, 5, 0)}}
	r, e := Report(l, p)
	u, _ := Upper(l, p)
	equal(t, "many", list(r, u, e), list(api.Report{Rows: 1 << 60, Most: 1 << 48, Unused: []int{0, 0, 0, 0}}, 1<<48, 0))
}
