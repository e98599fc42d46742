package profile

import (
	"fmt"
	"math/rand"
	"slices"
	"strings"
	"testing"

	"tablefinder/api"
	"tablefinder/table"
)

func equal(t *testing.T, what string, got, want any) {
	t.Helper()
	if g, w := fmt.Sprintf("%+v", got), fmt.Sprintf("%+v", want); g != w {
		t.Errorf("%s:\n got %s\nwant %s", what, g, w)
	}
}

func list(l ...any) []any { return l }

// column makes a column of words, where _ is null.
func column(words string) api.Column {
	var c api.Column
	for _, w := range strings.Fields(words) {
		c.Cells = append(c.Cells, api.Cell{Null: w == "_", Text: strings.Trim(w, "_")})
	}
	return c
}

func tab(columns ...string) api.Table {
	var t api.Table
	for _, c := range columns {
		t.Columns = append(t.Columns, column(c))
	}
	return t
}

var wrong = api.Table{ID: -1, Columns: make([]api.Column, 1)}

func TestP14_1(t *testing.T) {
	c := column("b a _ b é9 _ b AA")
	c.Cells[2].Text = "x" // of a null cell
	equal(t, "values", Values(c), []string{"AA", "a", "b", "é9"})
	equal(t, "counts", Counts(c), []api.Count{{Text: "AA", Count: 1}, {Text: "a", Count: 1}, {Text: "b", Count: 3}, {Text: "é9", Count: 1}})
	equal(t, "profile", Of(c), api.Profile{Rows: 8, Nulls: 2, Distinct: 4, Most: 3, Shortest: 1, Longest: 2, Formats: []api.Count{{Text: "a", Count: 2}, {Text: "A+", Count: 1}, {Text: "u9", Count: 1}}})
	equal(t, "nothing", list(Values(column("_")), Counts(api.Column{}), Of(column("_ _"))), list([]string{}, []api.Count{}, api.Profile{Rows: 2, Nulls: 2}))
	equal(t, "longer", list(Of(column("aaa bb")).Shortest, Of(column("aaa bb")).Longest), list(2, 3))
}

func TestP14_2(t *testing.T) {
	a := tab("b a b _ a", "1 2 1 3 1")
	for _, x := range []struct {
		columns []int
		want    [][]string
	}{{[]int{0, 1}, [][]string{{"a", "1"}, {"a", "2"}, {"b", "1"}}}, {[]int{1, 0, 1}, [][]string{{"1", "a", "1"}, {"1", "b", "1"}, {"2", "a", "2"}}}, {nil, [][]string{{}}}} {
		l, e := Tuples(a, x.columns)
		equal(t, fmt.Sprint(x.columns), list(l, e), list(x.want, 0))
	}
	l, e := Tuples(tab(""), nil)
	equal(t, "no rows", list(l, e), list([][]string{}, 0))
	_, e = Tuples(wrong, []int{9})
	_, f := Tuples(a, []int{0, 2})
	_, g := Tuples(a, []int{-1})
	equal(t, "errors", list(e, f, g), list(1, 2, 2))
	equal(t, "compare", list(CompareTuples([]string{"a"}, []string{"a", ""}), CompareTuples([]string{"b"}, []string{"a", "b"}), CompareTuples(nil, nil), CompareTuples([]string{"a", "b"}, []string{"a", "c"})), list(-1, 1, 0, -1))
	for _, x := range []struct {
		t       api.Table
		columns []int
		want    bool
	}{{a, []int{0}, false}, {a, []int{0, 1}, false}, {tab("a a b", "1 2 1"), []int{0, 1}, true}, {tab("a a b", "1 2 1"), []int{1, 0}, true}, {tab("a a b", "1 2 1"), []int{0}, false}, {tab("a b", "x x"), []int{0, 0}, false}, {tab("a b"), nil, false}, {tab("a b"), []int{1}, false}, {tab("a b"), []int{-1}, false}, {tab("a _"), []int{0}, false}, {wrong, []int{0}, false}, {tab("", ""), []int{1}, true}, {tab("a b", "x _"), []int{0}, true}, {tab("a b", "x _"), []int{0, 1}, false}} {
		equal(t, fmt.Sprint(x), IsKey(x.t, x.columns), x.want)
	}
}

func TestP14_3(t *testing.T) {
	a := tab("a a b", "1 2 1", "x _ y", "p q r")
	for most, want := range [][][]int{{}, {{3}}, {{3}, {0, 1}}, {{3}, {0, 1}}} {
		l, e := Keys(a, most)
		equal(t, fmt.Sprint(most), list(l, e), list(want, 0))
	}
	l, e := Keys(tab("", ""), 3)
	equal(t, "no rows", list(l, e), list([][]int{{0}, {1}}, 0))
	_, e = Keys(wrong, -1)
	_, f := Keys(a, -1)
	_, g := Keys(a, 4)
	equal(t, "errors", list(e, f, g), list(1, 2, 2))
	d := tab("a a b _ _", "1 1 2 3 3", "x y x x x")
	for _, x := range []struct {
		from []int
		to   int
		want bool
	}{{[]int{0}, 1, true}, {[]int{1}, 0, true}, {[]int{0}, 2, false}, {[]int{0, 2}, 1, true}, {nil, 0, false}, {[]int{2}, 2, true}, {[]int{0}, 3, false}, {[]int{0, 3}, 1, false}, {[]int{0}, -1, false}} {
		equal(t, fmt.Sprint(x), Determines(d, x.from, x.to), x.want)
	}
	equal(t, "others", list(Determines(wrong, nil, 0), Determines(tab("a a"), nil, 0), Determines(tab("_ x", "1 2"), nil, 0), Determines(tab("_ "), []int{0, 0}, 0)), list(false, true, false, true))
}

// TestKeys compares the minimal keys with all lists of columns.
func TestKeys(t *testing.T) {
	r := rand.New(rand.NewSource(1))
	for range 300 {
		a := api.Table{Columns: make([]api.Column, 4)}
		for range r.Intn(6) {
			for j := range a.Columns {
				a.Columns[j].Cells = append(a.Columns[j].Cells, []api.Cell{{Text: "a"}, {Text: "b"}, {Text: "c"}, {Text: "a"}, {Null: true}}[r.Intn(4+r.Intn(2))])
			}
		}
		var want [][]int
		for size := 1; size <= 3; size++ {
			for set := range 16 {
				var columns []int
				for j := range 4 {
					if set>>j&1 == 1 {
						columns = append(columns, j)
					}
				}
				l, _ := Tuples(a, columns)
				if len(columns) != size || len(l) != table.Rows(a) || slices.ContainsFunc(want, func(k []int) bool { return covers(columns, k) }) {
					continue
				}
				want = append(want, columns)
			}
		}
		slices.SortFunc(want, func(x, y []int) int {
			if len(x) != len(y) {
				return len(x) - len(y)
			}
			return slices.Compare(x, y)
		})
		got, _ := Keys(a, 3)
		equal(t, fmt.Sprint(a), got, want)
		for _, key := range got {
			equal(t, "key", IsKey(a, key), true)
		}
	}
}
