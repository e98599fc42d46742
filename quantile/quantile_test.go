package quantile

import (
	"fmt"
	"math"
	"math/rand"
	"slices"
	"strings"
	"testing"

	"tablefinder/api"
	"tablefinder/fraction"
)

func equal(t *testing.T, what string, got, want any) {
	t.Helper()
	if g, w := fmt.Sprintf("%+v", got), fmt.Sprintf("%+v", want); g != w {
		t.Errorf("%s:\n got %s\nwant %s", what, g, w)
	}
}

func list(l ...any) []any { return l }

func frac(n, d int) api.Fraction { f, _ := fraction.Of(n, d); return f }

func ints(l ...int) []api.Fraction {
	var f []api.Fraction
	for _, n := range l {
		f = append(f, frac(n, 1))
	}
	return f
}

// column makes a column of words, where _ is null.
func column(words string) api.Column {
	var c api.Column
	for _, w := range strings.Fields(words) {
		c.Cells = append(c.Cells, api.Cell{Null: w[0] == '_', Text: strings.Trim(w, "_")})
	}
	return c
}

func TestP23_1(t *testing.T) {
	equal(t, "numbers", Numbers(column("2 x -1.5 _ 2 _7 +0.5 2020-01-01 yes")), append([]api.Fraction{frac(-3, 2), frac(1, 2)}, ints(2, 2)...))
	equal(t, "none", list(Numbers(column("x _")), Numbers(api.Column{Cells: []api.Cell{{Text: " 3 "}, {}}})), list(ints(), ints(3)))
}

func TestP23_2(t *testing.T) {
	l := ints(1, 2, 3, 4)
	for _, x := range [][3]int{{1, 2, 2}, {0, 1, 1}, {1, 1, 4}, {1, 4, 1}, {26, 100, 2}, {3, 4, 3}, {99, 100, 4}, {math.MaxInt, math.MaxInt, 4}, {math.MaxInt / 2, math.MaxInt, 2}} {
		n, e := Rank(l, x[0], x[1])
		equal(t, fmt.Sprint(x), list(n, e), list(frac(x[2], 1), 0))
	}
	n, _ := Rank(l, 1, 1)
	n.Num.Words[0] = 9
	equal(t, "argument", l, ints(1, 2, 3, 4))
	for _, x := range []struct {
		l    []api.Fraction
		p, q int
		e    api.Errno
	}{{nil, 0, 0, 2}, {l, -1, 1, 2}, {l, 2, 1, 2}, {l, 0, -1, 2}, {l, math.MinInt, math.MinInt, 2}, {nil, 0, 1, 5}} {
		n, e := Rank(x.l, x.p, x.q)
		equal(t, "error", list(n, e), list(api.Fraction{}, x.e))
	}
	for _, x := range []struct{ l, bounds, want []int }{{[]int{1, 2, 2, 3, 7}, []int{2, 3, 5}, []int{1, 2, 1, 1}}, {[]int{1, 2}, nil, []int{2}}, {nil, []int{1}, []int{0, 0}}, {[]int{5}, []int{1, 2, 3}, []int{0, 0, 0, 1}}} {
		n, e := Counts(ints(x.l...), ints(x.bounds...))
		equal(t, "counts", list(n, e), list(x.want, 0))
	}
	bounds := make([]int, 65)
	for i := range bounds {
		bounds[i] = i
	}
	_, e := Counts(l, append(ints(3), ints(bounds[1:]...)...))
	_, f := Counts(l, ints(1, 1))
	_, g := Counts(l, ints(2, 1))
	_, h := Counts(l, ints(bounds[1:]...))
	equal(t, "errors", list(e, f, g, h), list(3, 2, 2, 0))
}

func TestP23_3(t *testing.T) {
	equal(t, "inside", list(Inside(ints(1, 2, 3, 4), ints(2, 3)), Inside(ints(1), ints(2)), Inside(nil, ints(1)), Inside(ints(1), nil), Inside(ints(2, 2), ints(2))), list(frac(1, 2), frac(0, 1), frac(0, 1), frac(0, 1), frac(1, 1)))
	for _, x := range []struct {
		a, b []int
		n, d int
	}{{[]int{1, 2}, []int{2, 3}, 1, 2}, {[]int{1, 2}, []int{3}, 1, 1}, {[]int{1, 1, 2}, []int{1, 2}, 1, 6}, {[]int{5}, []int{5, 5, 5}, 0, 1}} {
		d, e := Distance(ints(x.a...), ints(x.b...))
		f, _ := Distance(ints(x.b...), ints(x.a...))
		equal(t, fmt.Sprint(x), list(d, e, f), list(frac(x.n, x.d), 0, frac(x.n, x.d)))
	}
	_, e := Distance(nil, ints(1))
	_, f := Distance(ints(1), nil)
	equal(t, "missing", list(e, f), list(5, 5))
	r := rand.New(rand.NewSource(1))
	for range 500 {
		a, b := make([]int, 1+r.Intn(6)), make([]int, 1+r.Intn(6))
		for i := range a {
			a[i] = r.Intn(6)
		}
		for i := range b {
			b[i] = r.Intn(6)
		}
		slices.Sort(a)
		slices.Sort(b)
		most := frac(0, 1)
		for x := range 6 {
			part := func(l []int) api.Fraction {
				n := 0
				for _, y := range l {
					if y <= x {
						n++
					}
				}
				return frac(n, len(l))
			}
			d, _ := fraction.Sub(part(a), part(b))
			d.Num.Neg = false
			if fraction.Cmp(d, most) > 0 {
				most = d
			}
		}
		d, _ := Distance(ints(a...), ints(b...))
		equal(t, fmt.Sprint(a, b), d, most)
	}
}

func TestP23_4(t *testing.T) {
	l := []api.Table{{ID: 1, Columns: []api.Column{column("1 3"), column("x y"), column("2 1")}}, {ID: 4, Columns: []api.Column{column("1 2 _"), column("9 8 7")}}}
	h := func(table, column, n, d int) api.Hit {
		return api.Hit{Ref: api.Ref{Table: table, Column: column}, Score: frac(n, d)}
	}
	hits, e := Top(l, column("1 2 x"), 9)
	equal(t, "top", list(hits, e), list([]api.Hit{h(1, 2, 1, 1), h(4, 0, 1, 1), h(1, 0, 1, 2)}, 0))
	hits, _ = Top(l, column("1 2"), 1)
	equal(t, "first", hits, []api.Hit{h(1, 2, 1, 1)})
	for i, x := range []struct {
		l []api.Table
		c api.Column
		k int
		e api.Errno
	}{{[]api.Table{{ID: -1}}, column("1"), -1, 2}, {nil, column("1"), api.MaxK + 1, 2}, {[]api.Table{{ID: -1}}, column("1"), 0, 1}, {[]api.Table{{ID: 1}, {ID: 1}}, column(""), 1, 1}, {nil, api.Column{Cells: make([]api.Cell, 4097)}, 1, 1}, {l, api.Column{Cells: make([]api.Cell, 4096)}, 1, 0}, {l, column("1"), 0, 0}, {l, column("x"), api.MaxK, 0}} {
		hits, e := Top(x.l, x.c, x.k)
		equal(t, fmt.Sprint(i), list(hits, e), list([]api.Hit{}, x.e))
	}
}
