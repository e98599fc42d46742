package composite

import (
	"fmt"
	"math/rand"
	"slices"
	"strings"
	"testing"

	"tablefinder/api"
	"tablefinder/containment"
	"tablefinder/fraction"
	"tablefinder/posting"
	"tablefinder/profile"
)

func equal(t *testing.T, what string, got, want any) {
	t.Helper()
	if g, w := fmt.Sprintf("%+v", got), fmt.Sprintf("%+v", want); g != w {
		t.Errorf("%s:\n got %s\nwant %s", what, g, w)
	}
}

func list(l ...any) []any { return l }

// tab makes a table of columns of words, where _ is null.
func tab(id int, columns ...string) api.Table {
	t := api.Table{ID: id}
	for _, words := range columns {
		var c api.Column
		for _, w := range strings.Fields(words) {
			c.Cells = append(c.Cells, api.Cell{Null: w == "_", Text: strings.Trim(w, "_")})
		}
		t.Columns = append(t.Columns, c)
	}
	return t
}

// query makes a query of tuples of words.
func query(tuples ...string) [][]string {
	var q [][]string
	for _, s := range tuples {
		q = append(q, strings.Fields(s))
	}
	slices.SortFunc(q, profile.CompareTuples)
	return slices.CompactFunc(q, slices.Equal)
}

var (
	wrong = tab(-1, "a")
	noQ   = [][][]string{nil, {{}}, {{"a", "b", "c", "d"}}, {{"b"}, {"a"}}, {{"a"}, {"a"}}, {{"a"}, {"b", "c"}}, {{"a", "b"}, {"c"}}}
)

func frac(n, d int) api.Fraction { f, _ := fraction.Of(n, d); return f }

func TestP22_1(t *testing.T) {
	q, a := query("Bern CH", "Ulm DE", "Rom IT"), tab(1, "CH DE FR _", "Bern Ulm Ulm Rom")
	equal(t, "valid", list(Valid(q), Valid(query("a")), Valid(query("a b c"))), list(true, true, true))
	for i, x := range noQ {
		s, ok := Score(a, []int{0}, x)
		equal(t, fmt.Sprint(i), list(Valid(x), Common(x, q), Common(q, x), Least(a, []int{0}, x), s, ok), list(false, 0, 0, 0, api.Fraction{}, false))
	}
	equal(t, "common", list(Common(q, query("Bern CH", "Ulm DE", "x y")), Common(q, q), Common(q, query("Bern")), Common(query("a"), query("b"))), list(2, 3, 0, 0))
	equal(t, "least", list(Least(a, []int{1, 0}, q), Least(a, []int{0, 1}, q), Least(a, []int{1, 1}, q), Least(a, []int{1}, q), Least(a, []int{1, 2}, q), Least(a, []int{-1, 0}, q), Least(wrong, []int{0}, query("a"))), list(2, 0, 0, 0, 0, 0, 0))
}

func TestP22_2(t *testing.T) {
	a := tab(1, "a", "b", "c")
	equal(t, "choices", list(Choices(a, 1), Choices(a, 2)), list([][]int{{0}, {1}, {2}}, [][]int{{0, 1}, {0, 2}, {1, 0}, {1, 2}, {2, 0}, {2, 1}}))
	equal(t, "three", list(len(Choices(a, 3)), Choices(a, 3)[3]), list(6, []int{1, 2, 0}))
	equal(t, "none", list(Choices(a, 0), Choices(a, 4), Choices(a, -1), Choices(wrong, 1), Choices(tab(1, "a"), 2)), list([]int{}, []int{}, []int{}, []int{}, []int{}))
	q, b := query("Bern CH", "Ulm DE", "Rom IT"), tab(1, "CH DE FR _", "Bern Ulm Ulm Rom")
	for _, x := range []struct {
		columns []int
		score   api.Fraction
		ok      bool
	}{{[]int{1, 0}, frac(2, 3), true}, {[]int{0, 1}, frac(0, 1), true}, {[]int{0, 0}, api.Fraction{}, false}, {[]int{1}, api.Fraction{}, false}, {[]int{1, 2}, api.Fraction{}, false}, {[]int{-1, 0}, api.Fraction{}, false}} {
		s, ok := Score(b, x.columns, q)
		equal(t, fmt.Sprint(x.columns), list(s, ok), list(x.score, x.ok))
	}
	s, ok := Score(wrong, []int{0}, query("a"))
	equal(t, "not valid", list(s, ok), list(api.Fraction{}, false))
}

func TestP22_3(t *testing.T) {
	c := func(table int, columns []int, n int) api.Composite {
		return api.Composite{Table: table, Columns: columns, Score: frac(n, 4)}
	}
	for _, x := range []struct {
		a, b api.Composite
		want bool
	}{{c(2, []int{1}, 3), c(1, []int{0}, 2), true}, {c(1, []int{0}, 2), c(2, []int{1}, 3), false}, {c(1, []int{1}, 2), c(2, []int{0}, 2), true}, {c(1, []int{0}, 2), c(1, []int{0, 1}, 2), true}, {c(1, []int{0, 1}, 2), c(1, []int{0}, 2), false}, {c(1, []int{0}, 2), c(1, []int{0}, 2), false}, {c(1, []int{0, 9}, 2), c(1, []int{1, 0}, 2), true}} {
		equal(t, fmt.Sprint(x), Less(x.a, x.b), x.want)
	}
	for i, x := range []struct {
		l []api.Table
		q [][]string
		k int
		e api.Errno
	}{{[]api.Table{wrong}, query("a"), -1, 1}, {nil, nil, -1, 1}, {nil, query("a"), -1, 2}, {nil, query("a"), api.MaxK + 1, 2}, {nil, query("a"), api.MaxK, 0}} {
		l, e := Top(x.l, x.q, x.k)
		equal(t, fmt.Sprint(i), list(l, e), list([]int{}, x.e))
	}
	r := rand.New(rand.NewSource(1))
	for range 500 {
		var l []api.Table
		for id := range r.Intn(3) {
			var columns []string
			for range r.Intn(4) {
				words := ""
				for range 5 {
					words += " " + []string{"a", "b", "c", "_"}[r.Intn(4)]
				}
				columns = append(columns, words)
			}
			l = append(l, tab(2*id, columns...))
		}
		n, k := 1+r.Intn(3), r.Intn(5)
		var tuples []string
		for range 1 + r.Intn(4) {
			s := ""
			for range n {
				s += " " + []string{"a", "b", "c", "d"}[r.Intn(4)]
			}
			tuples = append(tuples, s)
		}
		q := query(tuples...)
		var want []api.Composite
		for _, a := range l {
			for _, columns := range Choices(a, n) {
				s, _ := Score(a, columns, q)
				found, _ := profile.Tuples(a, columns)
				both := 0
				for _, x := range found {
					if slices.ContainsFunc(q, func(y []string) bool { return slices.Equal(x, y) }) {
						both++
					}
				}
				equal(t, "score", list(s, both <= Least(a, columns, q)), list(frac(both, len(q)), true))
				if both > 0 {
					want = append(want, api.Composite{Table: a.ID, Columns: columns, Score: s})
				}
			}
		}
		slices.SortFunc(want, func(a, b api.Composite) int {
			if Less(a, b) {
				return -1
			}
			return 1
		})
		got, e := Top(l, q, k)
		equal(t, "top", list(got, e), list(want[:min(k, len(want))], 0))
		if n > 1 {
			continue
		}
		x, _ := posting.Build(l)
		var values []string
		for _, tuple := range q {
			values = append(values, tuple[0])
		}
		hits, _, _ := containment.Top(api.CoverQuery, x, values, k)
		for i, h := range hits {
			equal(t, "one column", got[i], api.Composite{Table: h.Ref.Table, Columns: []int{h.Ref.Column}, Score: h.Score})
		}
	}
}

func TestNoQueries(t *testing.T) {
	no, q := [][]string{{"a"}, {"a"}}, query("a")
	equal(t, "common", list(Common(no, q), Common(q, no)), list(0, 0))
}
