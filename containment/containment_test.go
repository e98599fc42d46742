package containment

import (
	"fmt"
	"math"
	"math/rand"
	"slices"
	"strings"
	"testing"

	"tablefinder/api"
	"tablefinder/fraction"
	"tablefinder/overlap"
	"tablefinder/posting"
)

func equal(t *testing.T, what string, got, want any) {
	t.Helper()
	if g, w := fmt.Sprintf("%+v", got), fmt.Sprintf("%+v", want); g != w {
		t.Errorf("%s:\n got %s\nwant %s", what, g, w)
	}
}

func list(l ...any) []any { return l }

func frac(n, d int) api.Fraction { f, _ := fraction.Of(n, d); return f }

// index makes an index whose columns have the letters of texts as values.
func index(columns ...string) api.Index {
	var x api.Index
	for i, c := range columns {
		x, _ = posting.Add(x, api.Ref{Table: 1 + i/2, Column: i % 2}, letters(c))
	}
	return x
}

func letters(s string) []string {
	l := strings.Split(s, "")
	slices.Sort(l)
	return slices.Compact(l)
}

// all returns the hits of all columns, without an index.
func all(kind int, columns []string, q []string) []api.Hit {
	var l []api.Hit
	for i, c := range columns {
		n, size := 0, len(letters(c))
		for _, v := range q {
			n += min(1, strings.Count(c, v))
		}
		if n > 0 {
			d := []int{0, len(q), size, len(q) + size - n}[kind]
			l = append(l, api.Hit{Ref: api.Ref{Table: 1 + i/2, Column: i % 2}, Score: frac(n, d)})
		}
	}
	slices.SortStableFunc(l, func(a, b api.Hit) int { return fraction.Cmp(b.Score, a.Score) })
	return l
}

func random(r *rand.Rand) (columns []string, x api.Index, q []string) {
	for range r.Intn(6) {
		s := ""
		for range r.Intn(6) {
			s += string(rune('a' + r.Intn(7)))
		}
		columns = append(columns, s)
	}
	return columns, index(columns...), letters(string([]rune{'a' + rune(r.Intn(9)), 'a' + rune(r.Intn(9)), 'z'}))
}

func TestP20_1(t *testing.T) {
	for kind := -1; kind < 6; kind++ {
		equal(t, fmt.Sprint(kind), Valid(kind), kind >= 1 && kind <= 3)
	}
	for _, x := range []struct {
		kind, common, query, size int
		want                      string
	}{
		{1, 2, 4, 8, "1/2"}, {2, 2, 4, 8, "1/4"}, {3, 2, 4, 8, "1/5"}, {1, 0, 1, 0, "0"}, {2, 0, 0, 1, "0"}, {3, 0, 0, 1, "0"}, {1, 0, 0, 1, "none"}, {2, 0, 1, 0, "none"}, {3, 0, 0, 0, "none"}, {3, 1, 1, 1, "1"},
		{0, 1, 1, 1, "none"}, {4, 1, 1, 1, "none"}, {1, 5, 4, 8, "none"}, {1, 5, 8, 4, "none"}, {1, -1, 4, 8, "none"}, {1, 0, -1, 8, "none"}, {1, 0, 8, -1, "none"}, {1, 1, 1 << 31, 1 << 31, "1/2147483648"}, {1, 1, 1<<31 + 1, 1, "none"}, {1, 1, 1, 1<<31 + 1, "none"}, {3, 1, math.MaxInt, math.MaxInt, "none"},
	} {
		s, ok := Score(x.kind, x.common, x.query, x.size)
		got := "none"
		if ok {
			got = fraction.Text(s)
		} else {
			equal(t, "zero", s, api.Fraction{})
		}
		equal(t, fmt.Sprint(x), got, x.want)
	}
}

func TestP20_2and3(t *testing.T) {
	r := rand.New(rand.NewSource(1))
	for range 3000 {
		columns, x, q := random(r)
		kind, k, least := 1+r.Intn(3), r.Intn(4), frac(1+r.Intn(4), 4)
		want := all(kind, columns, q)
		hits, c, e := Top(kind, x, q, k)
		equal(t, "top", list(hits, e, Check(kind, x, q, k, hits, c)), list(want[:min(k, len(want))], 0, true))
		want = slices.DeleteFunc(want, func(h api.Hit) bool { return fraction.Cmp(h.Score, least) < 0 })
		hits, c, e = Least(kind, x, q, least)
		equal(t, "least", list(hits, e, CheckLeast(kind, x, q, least, hits, c)), list(want, 0, true))
		for _, h := range want {
			low, high, ok := Range(kind, len(q), least)
			size := x.Entries[posting.Column(x, h.Ref)].Size
			equal(t, "range", ok && low <= size && size <= high, true)
		}
	}
	wrong, bad := api.Index{Values: []string{"a"}}, api.Fraction{Num: fraction.FromInt(2), Den: fraction.FromInt(2)}
	for i, x := range []struct {
		kind int
		x    api.Index
		q    []string
		k    int
		l    api.Fraction
		e, f api.Errno
	}{
		{0, wrong, nil, -1, bad, 1, 1}, {0, index("a"), []string{"a", "a"}, -1, bad, 1, 1}, {0, index("a"), nil, -1, bad, 2, 1}, {0, index("a"), nil, 1, frac(1, 2), 2, 2}, {4, index("a"), nil, 1, frac(1, 2), 2, 2},
		{1, index("a"), nil, -1, frac(0, 1), 2, 2}, {1, index("a"), nil, api.MaxK + 1, frac(3, 2), 2, 2}, {1, index("a"), nil, api.MaxK, frac(1, 1), 0, 0}, {1, index("a"), nil, 0, frac(-1, 2), 0, 2},
	} {
		h, c, e := Top(x.kind, x.x, x.q, x.k)
		l, d, f := Least(x.kind, x.x, x.q, x.l)
		equal(t, fmt.Sprint(i), list(e, f, h, l, c, d), list(x.e, x.f, []api.Hit{}, []api.Hit{}, api.Certificate{}, api.Certificate{}))
		equal(t, fmt.Sprint(i), list(Check(x.kind, x.x, x.q, x.k, nil, c), CheckLeast(x.kind, x.x, x.q, x.l, nil, d)), list(x.e == api.OK, x.f == api.OK))
	}
}

func TestP20_4(t *testing.T) {
	for _, x := range []struct {
		kind, query     int
		n, d, low, high int
		ok              bool
	}{
		{1, 5, 1, 2, 3, 4096, true}, {2, 5, 2, 3, 1, 7, true}, {3, 5, 2, 3, 4, 7, true}, {1, 4, 1, 2, 2, 4096, true}, {3, 4, 1, 1, 4, 4, true}, {1, 4096, 1, 1, 4096, 4096, true}, {1, 4097, 1, 1, 0, 0, false}, {3, 4097, 1, 1, 0, 0, false}, {3, 5000, 1, 2, 2500, 4096, true}, {2, 5000, 1, 1, 1, 4096, true}, {2, 1, 1, 1 << 40, 1, 4096, true},
		{1, 0, 1, 2, 0, 0, false}, {1, 1<<20 + 1, 1, 1 << 20, 0, 0, false}, {1, 1 << 20, 1, 1 << 20, 1, 4096, true}, {0, 5, 1, 2, 0, 0, false}, {1, 5, 0, 1, 0, 0, false}, {1, 5, 3, 2, 0, 0, false},
	} {
		low, high, ok := Range(x.kind, x.query, frac(x.n, x.d))
		equal(t, fmt.Sprint(x), list(low, high, ok), list(x.low, x.high, x.ok))
	}
	low, high, ok := Range(1, 5, api.Fraction{})
	equal(t, "not valid", list(low, high, ok), list(0, 0, false))
	tiny := frac(1, 1)
	for range 500 {
		tiny, _ = fraction.Mul(tiny, frac(1, 2))
	}
	low, high, ok = Range(3, 5, tiny)
	equal(t, "tiny", list(low, high, ok), list(1, 4096, true))
}

// TestP20_5 checks that hits that follow from what was read are those of Top or Least.
func TestP20_5(t *testing.T) {
	r := rand.New(rand.NewSource(1))
	held := [2]int{}
	for range 20000 {
		columns, x, q := random(r)
		var c api.Certificate
		for i := range x.Values {
			if r.Intn(3) > 0 {
				c.Lists = append(c.Lists, i)
			}
		}
		for i := range x.Entries {
			if r.Intn(2) > 0 {
				c.Columns = append(c.Columns, i)
			}
		}
		kind, k, least := 1+r.Intn(3), 1+r.Intn(2), frac(1+r.Intn(4), 4)
		want := all(kind, columns, q)
		hits := want[:r.Intn(len(want)+1)]
		if Check(kind, x, q, k, hits, c) {
			held[0]++
			equal(t, "top", hits, want[:min(k, len(want))])
		}
		if CheckLeast(kind, x, q, least, hits, c) {
			held[1]++
			equal(t, "least", hits, slices.DeleteFunc(want, func(h api.Hit) bool { return fraction.Cmp(h.Score, least) < 0 }))
		}
	}
	equal(t, "some hold", held[0] > 1000 && held[1] > 1000, true)
	x, q := index("ab", "bcd"), []string{"a", "b"}
	c := api.Certificate{Lists: []int{0, 1}}
	hits, _, _ := Top(1, x, q, 2)
	equal(t, "checks", list(Check(1, x, q, 2, hits, c), Check(2, x, q, 2, hits, c), Check(1, x, q, 1, hits, c), Check(1, x, q, 2, hits, api.Certificate{}), Check(1, x, q, 0, nil, api.Certificate{}), Check(1, x, q, 2, hits, api.Certificate{Lists: []int{9}}), CheckLeast(1, x, q, frac(1, 2), hits, c), CheckLeast(1, x, q, frac(3, 4), hits, c), CheckLeast(1, x, q, frac(3, 4), hits[:1], c)), list(true, false, false, false, true, false, true, false, true))
	hits[0], hits[1] = hits[1], hits[0]
	equal(t, "order", list(Check(1, x, q, 2, hits, c), CheckLeast(1, x, q, frac(1, 2), hits, c)), list(false, false))
}

func TestConsequences(t *testing.T) {
	for common := range 4 {
		a, _ := Score(1, common, 3, 4)
		b, _ := Score(2, common, 3, 4)
		c, _ := Score(3, common, 3, 4)
		equal(t, "at most", fraction.Cmp(c, a) <= 0 && fraction.Cmp(c, b) <= 0, true)
	}
	equal(t, "order", overlap.Less(api.Hit{Score: frac(1, 2)}, api.Hit{Score: frac(1, 3)}), true)
}

// TestInvalid has one argument that is not valid, and others that are.
func TestInvalid(t *testing.T) {
	x, q, half := index("ab"), []string{"a", "b"}, frac(1, 2)
	hits, c, _ := Top(1, x, q, 1)
	bad := index("ab")
	bad.Entries[0].Size = 3
	twice := []string{"a", "a"}
	_, _, e := Least(1, bad, q, half)
	_, _, f := Least(1, x, twice, half)
	equal(t, "least", list(e, f), list(1, 1))
	equal(t, "checks", list(Check(1, bad, q, 1, hits, c), Check(1, x, []string{"b", "a"}, 0, nil, c), CheckLeast(1, bad, q, half, hits, c), CheckLeast(1, x, []string{"b", "a"}, half, nil, api.Certificate{}), CheckLeast(1, x, []string{"y", "x"}, half, nil, c)), list(false, false, false, false, false))
}
