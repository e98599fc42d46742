package copies

import (
	"fmt"
	"math/rand"
	"slices"
	"strings"
	"testing"

	"tablefinder/api"
	"tablefinder/fraction"
	"tablefinder/table"
)

func equal(t *testing.T, what string, got, want any) {
	t.Helper()
	if g, w := fmt.Sprintf("%+v", got), fmt.Sprintf("%+v", want); g != w {
		t.Errorf("%s:\n got %s\nwant %s", what, g, w)
	}
}

func list(l ...any) []any { return l }

func frac(n, d int) api.Fraction { f, _ := fraction.Of(n, d); return f }

// tab makes a table of columns, each a name and its words, where _ is null.
func tab(id int, columns ...string) api.Table {
	t := api.Table{ID: id}
	for _, s := range columns {
		words := strings.Fields(s)
		c := api.Column{Name: words[0]}
		for _, w := range words[1:] {
			c.Cells = append(c.Cells, api.Cell{Null: w == "_", Text: strings.Trim(w, "_")})
		}
		t.Columns = append(t.Columns, c)
	}
	return t
}

var wrong = tab(-1, "a x")

func TestP36_1(t *testing.T) {
	for _, x := range []struct {
		t    api.Table
		want []string
		ok   bool
	}{{tab(1, "b", "a"), []string{"a", "b"}, true}, {tab(1, "b", "a", "b"), []string{"a", "b", "b"}, false}, {tab(1), nil, true}} {
		l, ok := Names(x.t)
		equal(t, fmt.Sprint(x.t), list(l, ok), list(x.want, x.ok))
	}
	for i, x := range []struct {
		a, b api.Table
		want []int
		ok   bool
	}{{tab(1, "a", "b", "c"), tab(2, "c", "a", "b"), []int{1, 2, 0}, true}, {tab(1, "a"), tab(2, "b"), nil, false}, {tab(1, "a", "a"), tab(2, "a", "a"), nil, false}, {tab(1, "a"), tab(2, "a", "b"), nil, false}, {tab(1), tab(2), nil, true}, {tab(1, "a", "b"), tab(2, "a", "a"), nil, false}} {
		l, ok := Align(x.a, x.b)
		equal(t, fmt.Sprint(i), list(l, ok), list(x.want, x.ok))
	}
}

func TestP36_2(t *testing.T) {
	for i, x := range []struct {
		a, b  api.Table
		n     int
		score api.Fraction
	}{
		{tab(1, "a x x y"), tab(2, "a x y z"), 2, frac(2, 3)}, {tab(1, "a 1 2 _", "b p q r"), tab(2, "b r q", "a _ 2"), 2, frac(2, 3)}, {tab(1, "a _"), tab(2, "a -"), 0, frac(0, 1)}, {tab(1, "a x"), tab(2, "b x"), 0, frac(0, 1)}, {tab(1, "a"), tab(2, "a"), 0, frac(0, 1)}, {tab(1), tab(2), 0, frac(0, 1)}, {tab(1, "a x x x"), tab(2, "a x x"), 2, frac(2, 3)}, {tab(1, "a 1", "b 2"), tab(2, "a 2", "b 1"), 0, frac(0, 1)},
	} {
		n, e := Common(x.a, x.b)
		s, f := Score(x.a, x.b)
		equal(t, fmt.Sprint(i), list(n, s, e, f), list(x.n, x.score, 0, 0))
	}
	for _, x := range [][2]api.Table{{wrong, tab(1)}, {tab(1), wrong}} {
		n, e := Common(x[0], x[1])
		s, f := Score(x[0], x[1])
		equal(t, "invalid", list(n, s, e, f), list(0, api.Fraction{}, 1, 1))
	}
}

func TestP36_3(t *testing.T) {
	q := tab(0, "a x x y", "b 1 2 3")
	l := []api.Table{tab(1, "b 1 9", "a x x"), tab(3, "a x x y", "b 1 2 3"), tab(4, "a z", "b 0"), tab(5, "a x", "b 2"), tab(9, "a x")}
	got, e := Top(l, q, 9)
	equal(t, "top", list(got, e), list([]api.Match{{Table: 3, Align: []int{0, 1}, Score: frac(1, 1)}, {Table: 1, Align: []int{1, 0}, Score: frac(1, 3)}, {Table: 5, Align: []int{0, 1}, Score: frac(1, 3)}}, 0))
	got, _ = Top(l, q, 2)
	equal(t, "first", list(len(got), got[1].Table), list(2, 1))
	for i, x := range []struct {
		l []api.Table
		q api.Table
		k int
		e api.Errno
	}{{[]api.Table{wrong}, wrong, -1, 2}, {nil, wrong, api.MaxK + 1, 2}, {[]api.Table{wrong}, q, 0, 1}, {l, wrong, 0, 1}, {l, q, 0, 0}, {nil, q, api.MaxK, 0}} {
		got, e := Top(x.l, x.q, x.k)
		equal(t, fmt.Sprint(i), list(got, e), list([]api.Match{}, x.e))
	}
}

// TestConsequences shuffles rows and columns.
func TestConsequences(t *testing.T) {
	r := rand.New(rand.NewSource(1))
	for range 500 {
		random := func() api.Table {
			words := func() string {
				s := ""
				for range 5 {
					s += " " + []string{"x", "y", "_"}[r.Intn(3)]
				}
				return s
			}
			return tab(1, "a"+words(), "b"+words())
		}
		a, b := random(), random()
		n, _ := Common(a, b)
		turned, _ := Common(b, a)
		c, _ := table.Select(b, r.Perm(5))
		slices.Reverse(c.Columns)
		m, _ := Common(a, c)
		s, _ := Score(b, c)
		equal(t, "order", list(m, turned, s), list(n, n, frac(1, 1)))
	}
}
