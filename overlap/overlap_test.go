package overlap

import (
	"fmt"
	"math/rand"
	"slices"
	"strings"
	"testing"

	"tablefinder/api"
	"tablefinder/fraction"
	"tablefinder/posting"
)

func equal(t *testing.T, what string, got, want any) {
	t.Helper()
	if g, w := fmt.Sprintf("%+v", got), fmt.Sprintf("%+v", want); g != w {
		t.Errorf("%s:\n got %s\nwant %s", what, g, w)
	}
}

func list(l ...any) []any { return l }

func whole(n int) api.Fraction { f, _ := fraction.Of(n, 1); return f }

// index makes an index whose columns have the letters of texts as values.
func index(columns ...string) api.Index {
	var x api.Index
	for i, c := range columns {
		x, _ = posting.Add(x, api.Ref{Table: 1 + i/2, Column: i % 2}, letters(c))
	}
	return x
}

func letters(s string) []string {
	l := strings.Split(s, "")
	slices.Sort(l)
	return slices.Compact(l)
}

func hit(column, score int) api.Hit {
	return api.Hit{Ref: api.Ref{Table: 1 + column/2, Column: column % 2}, Score: whole(score)}
}

// top is Top without an index.
func top(columns []string, q []string, k int) []api.Hit {
	var l []api.Hit
	for i, c := range columns {
		n := 0
		for _, v := range q {
			if strings.Contains(c, v) {
				n++
			}
		}
		if n > 0 {
			l = append(l, hit(i, n))
		}
	}
	slices.SortStableFunc(l, func(a, b api.Hit) int { return fraction.Cmp(b.Score, a.Score) })
	return l[:min(k, len(l))]
}

func random(r *rand.Rand) (columns []string, x api.Index, q []string) {
	for range r.Intn(6) {
		s := ""
		for range r.Intn(6) {
			s += string(rune('a' + r.Intn(7)))
		}
		columns = append(columns, s)
	}
	return columns, index(columns...), letters(string([]rune{'a' + rune(r.Intn(9)), 'a' + rune(r.Intn(9)), 'a' + rune(r.Intn(9)), 'z'}))
}

// certificate returns any part of an index.
func certificate(r *rand.Rand, x api.Index) api.Certificate {
	var c api.Certificate
	for i := range x.Values {
		if r.Intn(3) > 0 {
			c.Lists = append(c.Lists, i)
		}
	}
	for i := range x.Entries {
		if r.Intn(2) > 0 {
			c.Columns = append(c.Columns, i)
		}
	}
	return c
}

func TestP19_1(t *testing.T) {
	equal(t, "less", list(Less(hit(0, 2), hit(1, 1)), Less(hit(1, 1), hit(0, 2)), Less(hit(0, 1), hit(1, 1)), Less(hit(1, 1), hit(2, 1)), Less(hit(2, 1), hit(1, 1)), Less(hit(1, 1), hit(1, 1))), list(true, false, true, true, false, false))
	x := index("abc", "cd")
	equal(t, "count", list(Count(x, []string{"a", "b", "x"}, 0), Count(x, []string{"c", "a", "c"}, 1), Count(x, []string{"c"}, 2), Count(x, []string{"c"}, -1), Count(api.Index{}, nil, 0)), list(2, 1, 0, 0, 0))
}

func TestP19_2(t *testing.T) {
	r := rand.New(rand.NewSource(1))
	for range 2000 {
		columns, x, q := random(r)
		k := r.Intn(4)
		hits, c, e := Top(x, q, k)
		equal(t, "top", list(hits, e), list(top(columns, q, k), 0))
		equal(t, "check", Check(x, q, k, hits, c), true)
	}
	wrong := api.Index{Values: []string{"a"}}
	for i, x := range []struct {
		x api.Index
		q []string
		k int
		e api.Errno
	}{{wrong, nil, -1, 1}, {index("a"), []string{"b", "a"}, -1, 1}, {index("a"), []string{"a"}, -1, 2}, {index("a"), []string{"a"}, api.MaxK + 1, 2}, {index("a"), []string{"a"}, api.MaxK, 0}, {index("a"), nil, 5, 0}} {
		h, c, e := Top(x.x, x.q, x.k)
		equal(t, fmt.Sprint(i), list(e, e == api.OK || h == nil && c.Lists == nil && c.Columns == nil), list(x.e, true))
	}
}

func TestP19_3(t *testing.T) {
	x, q := index("abcd", "c", "xyz"), []string{"a", "b", "c", "x", "zz"}
	for i, c := range []struct {
		c    api.Certificate
		want []int
	}{
		{api.Certificate{}, []int{0, 4, 0, 1, 0, 3, 0, 0}}, {api.Certificate{Lists: []int{0, 1}}, []int{2, 4, 0, 1, 0, 2, 0, 0}}, {api.Certificate{Lists: []int{0, 1}, Columns: []int{0, 2}}, []int{3, 3, 0, 1, 1, 1, 0, 0}},
		{api.Certificate{Lists: []int{0, 1, 2, 3, 4}}, []int{3, 3, 1, 1, 1, 1, 0, 0}}, {api.Certificate{Lists: []int{1, 0}}, []int{0, 0, 0, 0, 0, 0, 0, 0}},
	} {
		var got []int
		for column := range 4 {
			low, high := Bounds(x, q, c.c, column)
			got = append(got, low, high)
		}
		equal(t, fmt.Sprint(i), got, c.want)
	}
	low, high := Bounds(x, []string{"c", "c", "b"}, api.Certificate{}, 0)
	equal(t, "no set", list(low, high), list(0, 2))
	for _, c := range []api.Certificate{{Lists: []int{-1}}, {Lists: []int{7}}, {Lists: []int{1, 1}}, {Columns: []int{3}}, {Columns: []int{1, 0}}, {Columns: []int{-1}}} {
		low, high := Bounds(x, q, c, 0)
		equal(t, fmt.Sprint(c), list(ValidCertificate(x, c), low, high, Work(x, c), Check(x, q, 0, nil, c)), list(false, 0, 0, 0, false))
	}
	equal(t, "valid", list(ValidCertificate(x, api.Certificate{}), ValidCertificate(x, api.Certificate{Lists: []int{0, 6}, Columns: []int{0, 2}})), list(true, true))
}

// TestP19_4 checks that hits that follow from what was read are those of Top.
func TestP19_4(t *testing.T) {
	x, q := index("abc", "c"), []string{"a", "b", "c"}
	c := api.Certificate{Lists: []int{0, 1}, Columns: []int{0}}
	for i, y := range []struct {
		k    int
		hits []api.Hit
		want bool
	}{
		{1, []api.Hit{hit(0, 3)}, true}, {0, nil, true}, {0, []api.Hit{hit(0, 3)}, false}, {1, nil, false}, {2, []api.Hit{hit(0, 3)}, false}, {1, []api.Hit{hit(0, 2)}, false}, {2, []api.Hit{hit(0, 3), hit(1, 1)}, false}, {1, []api.Hit{{Ref: hit(0, 3).Ref}}, false},
		{1, []api.Hit{hit(5, 3)}, false}, {2, []api.Hit{hit(0, 3), hit(0, 3)}, false}, {-1, nil, false}, {api.MaxK + 1, []api.Hit{hit(0, 3)}, false}, {1, []api.Hit{{Ref: hit(0, 3).Ref, Score: api.Fraction{Num: whole(6).Num, Den: whole(2).Num}}}, false},
	} {
		equal(t, fmt.Sprint(i), Check(x, q, y.k, y.hits, c), y.want)
	}
	all := api.Certificate{Lists: []int{0, 1, 2}}
	equal(t, "order", list(Check(x, q, 2, []api.Hit{hit(0, 3), hit(1, 1)}, all), Check(x, q, 2, []api.Hit{hit(1, 1), hit(0, 3)}, all), Check(x, []string{"b", "a"}, 0, nil, all), Check(api.Index{Values: []string{"a"}}, nil, 0, nil, api.Certificate{})), list(true, false, false, false))
	equal(t, "nothing", list(Check(x, []string{"z"}, 3, nil, api.Certificate{}), Check(x, nil, 0, nil, api.Certificate{})), list(true, true))
	r := rand.New(rand.NewSource(1))
	held := 0
	for range 20000 {
		columns, x, q := random(r)
		c := certificate(r, x)
		k := r.Intn(3)
		for column, s := range columns {
			low, high := Bounds(x, q, c, column)
			n := 0
			for _, v := range q {
				n += min(1, strings.Count(s, v))
			}
			if n < low || n > high {
				t.Fatal("bounds", columns, q, c, column, low, high)
			}
		}
		hits := top(columns, q, r.Intn(3))
		if Check(x, q, k, hits, c) {
			held++
			if k > 0 {
				equal(t, "follow", hits, top(columns, q, k))
			}
		}
	}
	equal(t, "some hold", held > 1000, true)
}

func TestP19_5(t *testing.T) {
	x := index("abc", "c")
	equal(t, "work", list(Work(x, api.Certificate{}), Work(x, api.Certificate{Lists: []int{0, 2}, Columns: []int{0}}), Work(x, api.Certificate{Lists: []int{3}})), list(0, 6, 0))
}
