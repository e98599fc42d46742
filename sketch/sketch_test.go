package sketch

import (
	"fmt"
	"hash/fnv"
	"math/rand"
	"slices"
	"strconv"
	"strings"
	"testing"

	"tablefinder/api"
	"tablefinder/fraction"
)

func equal(t *testing.T, what string, got, want any) {
	t.Helper()
	if g, w := fmt.Sprintf("%+v", got), fmt.Sprintf("%+v", want); g != w {
		t.Errorf("%s:\n got %s\nwant %s", what, g, w)
	}
}

func list(l ...any) []any { return l }

func frac(n, d int) api.Fraction { f, _ := fraction.Of(n, d); return f }

// column makes a column of words, where _ is null.
func column(words string) api.Column {
	var c api.Column
	for _, w := range strings.Fields(words) {
		c.Cells = append(c.Cells, api.Cell{Null: w == "_", Text: strings.Trim(w, "_")})
	}
	return c
}

func entries(l ...api.SketchEntry) []api.SketchEntry {
	for i := range l {
		l[i].Hash = Hash(l[i].Key)
	}
	slices.SortFunc(l, compare)
	return l
}

func TestP24_1(t *testing.T) {
	for _, s := range []string{"", "a", "foobar", "\xff\x00é"} {
		h := fnv.New64a()
		h.Write([]byte(s))
		equal(t, s, Hash(s), h.Sum64())
	}
}

func TestP24_2(t *testing.T) {
	s, e := Make(column("a a _ b c d"), column("1 2 3 5 x _"), 10)
	want := api.Sketch{K: 10, All: true, Entries: entries(api.SketchEntry{Key: "a", Count: 2, Sum: frac(3, 1)}, api.SketchEntry{Key: "b", Count: 1, Sum: frac(5, 1)})}
	equal(t, "make", list(s, e, Valid(s)), list(want, 0, true))
	s, _ = Make(column("a a b"), column("1 2 5"), 1)
	equal(t, "first", list(s, Valid(s)), list(api.Sketch{K: 1, Entries: want.Entries[:1]}, true))
	s, _ = Make(column("a a b"), column("1 2 5"), 2)
	equal(t, "all", list(s.All, len(s.Entries)), list(true, 2))
	many := api.Column{Cells: make([]api.Cell, 4097)}
	for i, x := range []struct {
		a, b api.Column
		k    int
		e    api.Errno
	}{{column("a"), column(""), 0, 2}, {many, many, 257, 2}, {column("a"), column(""), 1, 1}, {many, many, 1, 1}, {column(""), column(""), 256, 0}} {
		s, e := Make(x.a, x.b, x.k)
		equal(t, fmt.Sprint(i), list(e, e == api.OK || s.K == 0), list(x.e, true))
	}
	for i, change := range []func(s *api.Sketch){func(s *api.Sketch) { s.K = 0 }, func(s *api.Sketch) { s.K = 257 }, func(s *api.Sketch) { s.K = 1 }, func(s *api.Sketch) { s.All = false }, func(s *api.Sketch) { s.Entries[0].Hash++ }, func(s *api.Sketch) { s.Entries[0].Count = 0 },
		func(s *api.Sketch) { s.Entries[0].Sum = api.Fraction{} }, func(s *api.Sketch) { s.Entries[0], s.Entries[1] = s.Entries[1], s.Entries[0] }, func(s *api.Sketch) { s.Entries[1] = s.Entries[0] }} {
		s := api.Sketch{K: 3, All: true, Entries: slices.Clone(want.Entries)}
		equal(t, "valid", Valid(s), true)
		change(&s)
		m, e := Merge(s, want)
		n, f := Merge(want, s)
		equal(t, fmt.Sprint(i), list(Valid(s), m, e, n, f), list(false, api.Sketch{}, 1, api.Sketch{}, 1))
		Pairs(s, want)
		Pairs(want, s)
	}
	equal(t, "not all", list(Valid(api.Sketch{K: 2, Entries: want.Entries}), Valid(api.Sketch{}), Valid(api.Sketch{K: 1, All: true})), list(true, false, true))
}

func TestP24_3(t *testing.T) {
	a, _ := Make(column("a a b"), column("1 2 5"), 4)
	b, _ := Make(column("b a c"), column("1 4 1"), 4)
	pairs, all := Pairs(a, b)
	want := map[string][2]api.Fraction{"a": {frac(3, 2), frac(4, 1)}, "b": {frac(5, 1), frac(1, 1)}}
	equal(t, "pairs", list(pairs, all), list([][2]api.Fraction{want[a.Entries[0].Key], want[a.Entries[1].Key]}, true))
	c, _ := Make(column("a"), column("1"), 3)
	m, e := Merge(a, c)
	equal(t, "K", list(m, e), list(api.Sketch{}, api.ErrRange))
	p, all := Pairs(api.Sketch{}, api.Sketch{})
	equal(t, "nothing", list(p, all), list([][2]api.Fraction{}, false))
	p, all = Pairs(api.Sketch{All: true}, api.Sketch{})
	equal(t, "no keys", list(p, all), list([][2]api.Fraction{}, true))
}

// TestConsequences compares what sketches say with the columns, and merges parts of rows.
func TestConsequences(t *testing.T) {
	r := rand.New(rand.NewSource(1))
	columns := func(keys int) (api.Column, api.Column) {
		k, v := "", ""
		for range r.Intn(10) {
			k += " " + []string{"_", strconv.Itoa(r.Intn(keys))}[min(1, r.Intn(9))]
			v += " " + []string{"_", "x", "1.5", "2", "-1"}[r.Intn(5)]
		}
		return column(k), column(v)
	}
	complete := 0
	for range 5000 {
		n := 1 + r.Intn(8)
		a, b := columns(n)
		c, d := columns(n)
		k := 1 + r.Intn(4)
		x, _ := Make(a, b, k)
		y, _ := Make(c, d, k)
		w, e := Make(api.Column{Cells: slices.Concat(a.Cells, c.Cells)}, api.Column{Cells: slices.Concat(b.Cells, d.Cells)}, k)
		m, f := Merge(x, y)
		equal(t, "merge", list(m, f), list(w, e))
		equal(t, "valid", Valid(x) && Valid(y) && Valid(m), true)
		allX, _ := Make(a, b, 256)
		allY, _ := Make(c, d, 256)
		exact, sure := Pairs(allX, allY)
		pairs, all := Pairs(x, y)
		equal(t, "sure", sure, true)
		if all {
			complete++
			equal(t, "all pairs", pairs, exact)
		}
		possible := x.All && y.All
		for _, z := range [][2]api.Sketch{{x, y}, {y, x}} {
			good := z[0].All
			for _, e := range z[0].Entries {
				in := slices.ContainsFunc(z[1].Entries, func(o api.SketchEntry) bool { return o.Key == e.Key })
				good = good && (z[1].All || in || compare(e, z[1].Entries[k-1]) < 0)
			}
			possible = possible || good
		}
		equal(t, "whether", all, possible)
	}
	equal(t, "some", complete > 500, true)
}

func TestMost(t *testing.T) {
	many := api.Column{Cells: make([]api.Cell, api.MaxRows)}
	s, e := Make(many, many, api.MaxSketch)
	equal(t, "most", list(e, Valid(s)), list(0, true))
}
