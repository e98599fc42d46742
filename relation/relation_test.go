package relation

import (
	"fmt"
	"math"
	"math/rand"
	"strings"
	"testing"

	"tablefinder/api"
	"tablefinder/fraction"
)

func equal(t *testing.T, what string, got, want any) {
	t.Helper()
	if g, w := fmt.Sprintf("%+v", got), fmt.Sprintf("%+v", want); g != w {
		t.Errorf("%s:\n got %s\nwant %s", what, g, w)
	}
}

func list(l ...any) []any { return l }

// tab makes a table of columns of words, where _ is null.
func tab(id int, columns ...string) api.Table {
	t := api.Table{ID: id}
	for _, words := range columns {
		var c api.Column
		for _, w := range strings.Fields(words) {
			c.Cells = append(c.Cells, api.Cell{Null: w == "_", Text: strings.Trim(w, "_")})
		}
		t.Columns = append(t.Columns, c)
	}
	return t
}

func TestP29_1(t *testing.T) {
	r, e := Of(tab(7, "x x x", "1 1 2"), 1, tab(4, "1 3"), 0)
	want := api.Relation{A: api.Ref{Table: 7, Column: 1}, B: api.Ref{Table: 4}, Common: 1, OnlyA: 1, OnlyB: 1, MostA: 2, MostB: 1, LostA: 1, LostB: 1}
	equal(t, "example", list(r, e), list(want, 0))
	r, _ = Of(tab(1, "_ _ a b b"), 0, tab(1, "_ c"), 0)
	equal(t, "no common values", r, api.Relation{A: api.Ref{Table: 1}, B: api.Ref{Table: 1}, OnlyA: 2, OnlyB: 1, LostA: 5, LostB: 2})
	a := tab(2, "a _ b a c c")
	r, _ = Of(a, 0, a, 0)
	equal(t, "itself", r, api.Relation{A: api.Ref{Table: 2}, B: api.Ref{Table: 2}, Common: 3, MostA: 2, MostB: 2, LostA: 1, LostB: 1})
	for i, x := range []struct {
		a api.Table
		i int
		b api.Table
		j int
		e api.Errno
	}{{tab(-1, "a"), 9, a, 9, 1}, {a, 9, tab(-1, "a"), 9, 1}, {a, 1, a, 0, 2}, {a, -1, a, 0, 2}, {a, 0, a, 1, 2}, {a, 0, a, -1, 2}, {tab(0), 0, tab(0), 0, 2}} {
		r, e := Of(x.a, x.i, x.b, x.j)
		equal(t, fmt.Sprint(i), list(r, e), list(api.Relation{}, x.e))
	}
}

func TestP29_2(t *testing.T) {
	for _, x := range []struct {
		r    api.Relation
		kind int
		part string
	}{
		{api.Relation{}, 0, "0"}, {api.Relation{OnlyA: 3, MostA: 1, MostB: 1}, 0, "0"}, {api.Relation{Common: 1, MostA: 1, MostB: 1}, 1, "1"}, {api.Relation{Common: 1, OnlyA: 2, MostA: 1, MostB: 2}, 2, "1/3"}, {api.Relation{Common: 2, OnlyA: 2, MostA: 2, MostB: 1}, 3, "1/2"}, {api.Relation{Common: 1, OnlyB: 5, MostA: 2, MostB: 2}, 4, "1"},
		{api.Relation{Common: 1 << 40, OnlyA: 1 << 40}, 1, "1/2"}, {api.Relation{Common: 5, OnlyA: -5}, 1, "0"}, {api.Relation{Common: math.MaxInt, OnlyA: math.MaxInt}, 1, fraction.Text(Contained(api.Relation{Common: math.MaxInt, OnlyA: math.MaxInt}))},
	} {
		equal(t, fmt.Sprint(x.r), list(Kind(x.r), fraction.Text(Contained(x.r))), list(x.kind, x.part))
	}
	equal(t, "turn", Turn(api.Relation{A: api.Ref{Table: 1}, B: api.Ref{Table: 2}, Common: 3, OnlyA: 4, OnlyB: 5, MostA: 6, MostB: 7, LostA: 8, LostB: 9}), api.Relation{A: api.Ref{Table: 2}, B: api.Ref{Table: 1}, Common: 3, OnlyA: 5, OnlyB: 4, MostA: 7, MostB: 6, LostA: 9, LostB: 8})
}

func TestConsequences(t *testing.T) {
	r := rand.New(rand.NewSource(1))
	for range 1000 {
		words := func() string {
			s := ""
			for range r.Intn(7) {
				s += " " + []string{"a", "b", "c", "d", "_"}[r.Intn(5)]
			}
			return s
		}
		a, b := tab(1, words()), tab(2, words())
		x, _ := Of(a, 0, b, 0)
		y, _ := Of(b, 0, a, 0)
		equal(t, "turned", Turn(x), y)
		most, lost := 0, 0
		for _, c := range a.Columns[0].Cells {
			n := 0
			for _, d := range b.Columns[0].Cells {
				if !c.Null && !d.Null && c.Text == d.Text {
					n++
				}
			}
			most = max(most, n)
			if n == 0 {
				lost++
			}
		}
		equal(t, "rows", list(most, lost), list(x.MostB, x.LostA))
	}
}
