package sheet

import (
	"fmt"
	"math"
	"math/rand"
	"strings"
	"testing"

	"tablefinder/api"
)

func equal(t *testing.T, what string, got, want any) {
	t.Helper()
	if g, w := fmt.Sprintf("%+v", got), fmt.Sprintf("%+v", want); g != w {
		t.Errorf("%s:\n got %s\nwant %s", what, g, w)
	}
}

func list(l ...any) []any { return l }

// grid makes a grid of lines, where . is a place without a text.
func grid(lines ...string) api.Grid {
	var g api.Grid
	for _, l := range lines {
		var row []string
		for _, c := range l {
			row = append(row, strings.Trim(string(c), "."))
		}
		g.Rows = append(g.Rows, row)
	}
	return g
}

func region(top, left, bottom, right int) api.Region {
	return api.Region{Top: top, Left: left, Bottom: bottom, Right: right}
}

func TestP8_1(t *testing.T) {
	g := grid("ab", "", "c.d")
	equal(t, "at", list(At(g, 0, 1), At(g, 2, 2), At(g, 0, 2), At(g, 1, 0), At(g, 3, 0), At(g, -1, 0), At(g, 0, -1)), list("b", "d", "", "", "", "", ""))
	equal(t, "width", list(Width(g), Width(api.Grid{}), Width(grid("", ""))), list(3, 0, 0))
	for i, x := range []struct {
		g    api.Grid
		want []api.Region
	}{
		{api.Grid{}, nil}, {grid("", "..", "  "), nil}, {grid("...", ".a.", "..."), []api.Region{region(1, 1, 2, 2)}},
		{grid("ab.cd", "ef.gh"), []api.Region{region(0, 0, 2, 2), region(0, 3, 2, 5)}},
		{grid("t....", "ab.cd", "ef.gh"), []api.Region{region(0, 0, 3, 2), region(1, 3, 3, 5)}},
		{grid("ttt..", "ab.cd", "ef.gh"), []api.Region{region(0, 0, 3, 5)}},
		{grid("ttt", "...", "a.c", "e.g"), []api.Region{region(0, 0, 1, 3), region(2, 0, 4, 1), region(2, 2, 4, 3)}},
		{grid("a.b", "..b", "c.b"), []api.Region{region(0, 0, 1, 1), region(0, 2, 3, 3), region(2, 0, 3, 1)}},
		{grid("a \tb", "a", "", "  c"), []api.Region{region(0, 0, 2, 1), region(0, 2, 1, 4), region(3, 2, 4, 3)}},
	} {
		equal(t, fmt.Sprint(i), Regions(x.g), x.want)
	}
}

func TestP8_2(t *testing.T) {
	g := grid("ab", "", "c d")
	c, e := Cut(g, region(0, 1, 4, 3))
	equal(t, "cut", list(fmt.Sprintf("%q", c.Rows), e), list(`[["b" ""] ["" ""] [" " "d"] ["" ""]]`, 0))
	c.Rows[0][0] = "!"
	equal(t, "no shared memory", g.Rows[0][1], "b")
	for _, x := range []struct {
		r api.Region
		e api.Errno
	}{
		{region(-1, 0, 1, 1), 1}, {region(0, -1, 1, 1), 1}, {region(1, 0, 1, 1), 1}, {region(0, 2, 1, 1), 1}, {region(0, 0, most+1, 1), 1}, {region(0, 0, 1, most+1), 1}, {region(0, 0, math.MinInt, math.MaxInt), 1},
		{region(0, 0, 4097, 1), 3}, {region(0, 0, 1, 65), 3}, {region(9, 0, 4105, 1), 0}, {region(most-1, most-64, most, most), 0},
	} {
		c, e := Cut(g, x.r)
		equal(t, fmt.Sprint(x.r), list(e, e == api.OK || len(c.Rows) == 0), list(x.e, true))
	}
}

func TestP8_3(t *testing.T) {
	for _, l := range [][]api.Region{nil, {region(0, 1, 2, 3)}, {region(5, 6, 7, 8), region(0, 0, most, most), region(0, 0, most, most)}} {
		s, ok := Text(l)
		back, good := Parse(s)
		equal(t, s, list(ok, back, good), list(true, l, true))
	}
	s, _ := Text([]api.Region{region(0, 1, 20, 3), region(4, 5, 6, 7)})
	equal(t, "text", s, "0,1,20,3;4,5,6,7")
	s, ok := Text([]api.Region{region(0, 0, 1, 1), region(1, 0, 1, 1)})
	equal(t, "not valid", list(s, ok), list("", false))
	for _, s := range []string{"0", "0,0,1", "0,0,1,1,1", "0,0,1,1;", ";", "0,0,0,1", "0,0,1,01", "0,0,1,+1", "0,0, 1,1", "-1,0,1,1", "0,0,1,1048577", "0,0,1,99999999999999999999", "a,b,c,d"} {
		l, ok := Parse(s)
		equal(t, s, list(l, ok), list([]api.Region{}, false))
	}
}

func TestConsequences(t *testing.T) {
	r := rand.New(rand.NewSource(1))
	for range 500 {
		var g api.Grid
		for range r.Intn(8) {
			var row []string
			for range r.Intn(8) {
				row = append(row, []string{"", " ", "x", "y"}[r.Intn(4)])
			}
			g.Rows = append(g.Rows, row)
		}
		owners := map[[2]int]int{}
		for _, x := range Regions(g) {
			rows, columns := full(g, x)
			equal(t, "no blank lines", list(len(parts(rows)), len(parts(columns)), rows[0], columns[0], rows[len(rows)-1], columns[len(columns)-1]), list(1, 1, true, true, true, true))
			for i := x.Top; i < x.Bottom; i++ {
				for j := x.Left; j < x.Right; j++ {
					owners[[2]int{i, j}]++
				}
			}
		}
		for i := range g.Rows {
			for j := range Width(g) {
				n := owners[[2]int{i, j}]
				if n > 1 || n == 0 && strings.TrimSpace(At(g, i, j)) != "" {
					t.Errorf("%q: %d owners of %d, %d", g.Rows, n, i, j)
				}
			}
		}
	}
}

func TestEmptyRegions(t *testing.T) {
	_, e := Cut(grid("ab"), region(0, 1, 1, 1))
	_, ok := Parse("0,1,1,1")
	equal(t, "no columns", list(e, ok), list(api.ErrInvalid, false))
}
