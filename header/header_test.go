package header

import (
	"fmt"
	"strings"
	"testing"

	"tablefinder/api"
	"tablefinder/table"
)

func equal(t *testing.T, what string, got, want any) {
	t.Helper()
	if g, w := fmt.Sprintf("%+v", got), fmt.Sprintf("%+v", want); g != w {
		t.Errorf("%s:\n got %s\nwant %s", what, g, w)
	}
}

func list(l ...any) []any { return l }

// grid makes a grid of rows whose texts have bars between them.
func grid(rows ...string) api.Grid {
	var g api.Grid
	for _, r := range rows {
		g.Rows = append(g.Rows, strings.Split(r, "|"))
	}
	return g
}

func option(rows string, pro, contra int) api.Option {
	return api.Option{Text: rows, For: pro, Against: contra}
}

func TestP9_1Number(t *testing.T) {
	for s, want := range map[string]bool{"7": true, " -1.5 ": true, "+3": true, "2026-11-19": true, "12:30": true, "1/2.": true, "1234567890123456789": true, "": false, " ": false, "-": false, ".5": false, "1e5": false, "5 km": false, "a1": false, "--1": false, "1-": true, "1\t": false, "-1-2": false} {
		equal(t, s, Number(s), want)
	}
}

func TestP9_1(t *testing.T) {
	for i, x := range []struct {
		g    api.Grid
		want []api.Option
	}{
		{grid("city|size", "Bern|5", "Ulm|7"), []api.Option{option("1", 1, 0), option("0", 0, 1), option("2", 0, 1), option("3", 0, 1)}},
		{api.Grid{}, []api.Option{option("0", 0, 0)}},
		{grid("1|2", "3|4"), []api.Option{option("0", 2, 0), option("1", 0, 2), option("2", 0, 2)}},
		{grid("a|b", "c|d", "e|f", "g|h"), []api.Option{option("1", 0, 0), option("0", 0, 0), option("2", 0, 0), option("3", 0, 0)}},
		// a blank one, a numeric one, and one for the second time
		{grid(" | 7|a| a ", "1|2|3|x"), []api.Option{option("0", 1, 1), option("1", 1, 3), option("2", 0, 3)}},
		{grid("x|", "a|b", "1|"), []api.Option{option("2", 1, 0), option("0", 0, 0), option("1", 0, 1)}},
		{grid("a", "", " "), []api.Option{option("1", 0, 0), option("0", 0, 0), option("2", 0, 1), option("3", 0, 1)}},
		{grid("|b", "1"), []api.Option{option("0", 0, 0), option("1", 0, 1), option("2", 0, 2)}},
	} {
		l := Options(x.g)
		if i == 5 {
			l = l[:3]
		}
		equal(t, fmt.Sprint(i), l, x.want)
	}
	g := grid("a", "b", "c", "d", "e")
	for _, n := range []int{-1, 4, 5, 6} {
		equal(t, fmt.Sprint(n), Evidence(g, n), api.Option{})
	}
	equal(t, "more than there are", Evidence(grid("a"), 2), api.Option{})
}

func TestP9_2(t *testing.T) {
	for _, x := range []struct {
		g    api.Grid
		rows int
		want []string
	}{
		{grid(" a | |b", "c||b"), 2, []string{"a c", "column 2", "b b"}}, {grid("a|a|a 2|a"), 1, []string{"a", "a 2", "a 2 2", "a 3"}}, {grid("column 2||x"), 1, []string{"column 2", "column 2 2", "x"}},
		{grid("a|b"), 0, []string{"column 1", "column 2"}}, {grid("a|b"), -5, []string{"column 1", "column 2"}}, {grid("a|b", "c"), 99, []string{"a c", "b"}}, {grid("a 2|a|a"), 1, []string{"a 2", "a", "a 3"}}, {api.Grid{}, 1, nil},
	} {
		equal(t, fmt.Sprint(x.g), fmt.Sprintf("%q", Names(x.g, x.rows)), fmt.Sprintf("%q", x.want))
	}
	many := grid(strings.Repeat("a|", 50000) + "a")
	names := Names(many, 1)
	equal(t, "many", names[50000], "a 50001")
}

func TestP9_3(t *testing.T) {
	a, e := Apply(7, "n", grid("a|b", "1", "2|NA|x"), 1)
	cells := func(l ...string) []api.Cell {
		var c []api.Cell
		for _, s := range l {
			c = append(c, api.Cell{Text: s})
		}
		return c
	}
	equal(t, "apply", list(a, e), list(api.Table{ID: 7, Name: "n", Columns: []api.Column{{Name: "a", Cells: cells("1", "2")}, {Name: "b", Cells: cells("", "NA")}, {Name: "column 3", Cells: cells("", "x")}}}, 0))
	long := strings.Repeat("x", 1024)
	tall, wide := grid(strings.Repeat("a\n", 4097)), grid(strings.Repeat("|", 64))
	tall.Rows = nil
	for range 4097 {
		tall.Rows = append(tall.Rows, []string{"a"})
	}
	for i, x := range []struct {
		id   int
		name string
		g    api.Grid
		rows int
		e    api.Errno
	}{
		{-1, "", api.Grid{}, 1, 2}, {0, "", tall, -1, 2}, {0, "", tall, 4, 2}, {-1, "", tall, 0, 1}, {api.MaxID + 1, "", wide, 0, 1}, {0, "\xff", tall, 0, 1}, {0, long + "x", tall, 0, 1}, {0, "", grid("\xff"), 0, 1}, {0, "", grid("\xff"), 1, 1},
		{0, "", grid(long + "x"), 0, 1}, {0, "", grid(long+"x", "a"), 1, 1}, {0, "", grid(long, "a"), 2, 1}, {0, "", tall, 0, 3}, {0, "", tall, 1, 0}, {0, "", wide, 0, 3}, {0, "", grid(strings.Repeat("|", 63)), 0, 0},
		{api.MaxID, long, grid(long), 1, 0}, {0, "", api.Grid{}, 0, 0}, {0, "", api.Grid{Rows: make([][]string, 4097)}, 0, 3}, {0, "", grid(long + "|" + long), 1, 1},
	} {
		a, e := Apply(x.id, x.name, x.g, x.rows)
		equal(t, fmt.Sprint(i), list(e, e == api.OK && table.Valid(a) || table.Same(a, api.Table{})), list(x.e, true))
	}
}

func TestConsequences(t *testing.T) {
	g := grid("a|b||a", "a|c|a", "1|2|3|4|5")
	for rows := range 4 {
		taken := map[string]bool{}
		for _, n := range Names(g, rows) {
			taken[n] = true
		}
		equal(t, "different names", len(taken), 5)
	}
}

func TestMost(t *testing.T) {
	a, e := Apply(0, "", grid("a", "b", "c", "1"), 3)
	equal(t, "header rows", list(a.Columns, e), list([]api.Column{{Name: "a b c", Cells: []api.Cell{{Text: "1"}}}}, 0))
	equal(t, "digits", list(Number("0-1"), Number("9-1"), Number("/1"), Number(":1")), list(true, true, false, false))
}
