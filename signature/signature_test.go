package signature

import (
	"fmt"
	"math"
	"math/rand"
	"strings"
	"testing"

	"tablefinder/api"
	"tablefinder/profile"
	"tablefinder/table"
)

func equal(t *testing.T, what string, got, want any) {
	t.Helper()
	if g, w := fmt.Sprintf("%+v", got), fmt.Sprintf("%+v", want); g != w {
		t.Errorf("%s:\n got %s\nwant %s", what, g, w)
	}
}

func list(l ...any) []any { return l }

// tab makes a table of columns of words, where _ is null.
func tab(id int, columns ...string) api.Table {
	t := api.Table{ID: id}
	for _, words := range columns {
		var c api.Column
		for _, w := range strings.Fields(words) {
			c.Cells = append(c.Cells, api.Cell{Null: w == "_", Text: strings.Trim(w, "_")})
		}
		t.Columns = append(t.Columns, c)
	}
	return t
}

var wrong = []api.Table{{ID: 2}, {ID: 2}}

func TestP17_1(t *testing.T) {
	l := []api.Table{tab(1, "b a a _", "c c b x"), tab(2, "b d c")}
	o, e := Order(l)
	equal(t, "order", list(o, e), list([]string{"a", "d", "x", "c", "b"}, 0))
	o, e = Order(wrong)
	equal(t, "invalid", list(o, e), list([]string{}, api.ErrInvalid))
	any := []string{"z", "a", "z"}
	equal(t, "rank", list(Rank(any, "z"), Rank(any, "a"), Rank(any, "b"), Rank(nil, "")), list(0, 1, -1, -1))
	equal(t, "ranks", list(Ranks(any, []string{"a", "z", "b", "z", "a"}), Ranks(nil, any)), list([]int{0, 1}, []int{}))
}

func TestP17_2(t *testing.T) {
	for _, x := range [][3]int{{5, 4, 2}, {5, 1, 5}, {5, 5, 1}, {5, 6, 0}, {5, 0, 0}, {5, -1, 0}, {0, 1, 0}, {-3, 1, 0}, {math.MaxInt, 1, math.MaxInt}, {math.MinInt, math.MaxInt, 0}, {math.MaxInt, math.MinInt, 0}} {
		equal(t, fmt.Sprint(x), Prefix(x[0], x[1]), x[2])
	}
	ranks := []int{3, 5, 8, 9, 11}
	s := Signature(ranks, 4)
	equal(t, "signature", list(s, Signature(ranks, 0), Signature(nil, 1)), list([]int{3, 5}, []int{}, []int{}))
	s[0] = 99
	equal(t, "argument", ranks[0], 3)
	equal(t, "overlap", list(Overlap(ranks, []int{1, 5, 9, 12}), Overlap(ranks, nil), Overlap([]int{1, 1}, []int{1})), list(2, 0, 0))
}

func TestP17_3(t *testing.T) {
	r := rand.New(rand.NewSource(1))
	for range 300 {
		var l []api.Table
		for id := range r.Intn(4) {
			var columns []string
			for range r.Intn(3) {
				words := ""
				for range 6 {
					words += " " + string(rune('a'+r.Intn(9)))
				}
				columns = append(columns, words)
			}
			l = append(l, tab(3*id, columns...))
		}
		need := 1 + r.Intn(5)
		var want [][2]api.Ref
		for i, a := range table.Refs(l) {
			for _, b := range table.Refs(l)[i+1:] {
				x, _ := table.Get(l, a)
				y, _ := table.Get(l, b)
				both := 0
				for _, v := range profile.Values(x) {
					both += strings.Count(" "+strings.Join(profile.Values(y), " ")+" ", " "+v+" ")
				}
				if both >= need {
					want = append(want, [2]api.Ref{a, b})
				}
			}
		}
		pairs, e := Pairs(l, need)
		n, f := Tried(l, need)
		equal(t, "pairs", list(pairs, e, f, n >= len(pairs)), list(want, 0, 0, true))
		o, _ := Order(l)
		signed := 0
		for i, a := range table.Refs(l) {
			for _, b := range table.Refs(l)[i+1:] {
				x, _ := table.Get(l, a)
				y, _ := table.Get(l, b)
				if Overlap(Signature(Ranks(o, profile.Values(x)), need), Signature(Ranks(o, profile.Values(y)), need)) > 0 {
					signed++
				}
			}
		}
		equal(t, "tried", n, signed)
	}
	for _, x := range []struct {
		l    []api.Table
		need int
		e    api.Errno
	}{{wrong, 0, api.ErrInvalid}, {nil, 0, api.ErrRange}, {nil, -1, api.ErrRange}, {nil, 1, api.OK}, {nil, math.MaxInt, api.OK}} {
		p, e := Pairs(x.l, x.need)
		n, f := Tried(x.l, x.need)
		equal(t, "errors", list(p, n, e, f), list([][2]api.Ref{}, 0, x.e, x.e))
	}
}
