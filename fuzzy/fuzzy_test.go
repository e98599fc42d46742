package fuzzy

import (
	"fmt"
	"math/rand"
	"slices"
	"strings"
	"testing"

	"tablefinder/api"
	"tablefinder/containment"
	"tablefinder/distance"
	"tablefinder/fraction"
	"tablefinder/posting"
	"tablefinder/text"
)

func equal(t *testing.T, what string, got, want any) {
	t.Helper()
	if g, w := fmt.Sprintf("%+v", got), fmt.Sprintf("%+v", want); g != w {
		t.Errorf("%s:\n got %s\nwant %s", what, g, w)
	}
}

func list(l ...any) []any { return l }

var (
	same = api.Rule{Kind: api.RuleEqual}
	edit = api.Rule{Kind: api.RuleEdit, Limit: 1}
	half = api.Rule{Kind: api.RuleToken, Num: 1, Den: 2}
)

// index makes an index of columns of words.
func index(columns ...string) api.Index {
	var x api.Index
	for i, c := range columns {
		x, _ = posting.Add(x, api.Ref{Table: 1 + i/2, Column: i % 2}, text.Set(strings.Split(c, " ")))
	}
	return x
}

func words(r *rand.Rand) []string {
	var l []string
	for range r.Intn(6) {
		l = append(l, []string{"", "a", "b", "ab", "ba", "abb", "aab", "b a", "a-b", "--", "-", "b b a", "é", "\xff", "\xfe"}[r.Intn(15)])
	}
	return text.Set(l)
}

func rule(r *rand.Rand) api.Rule {
	return []api.Rule{same, edit, half, {Kind: api.RuleEdit}, {Kind: api.RuleEdit, Limit: 2}, {Kind: api.RuleToken, Num: 1, Den: 1}}[r.Intn(6)]
}

func matches(r api.Rule, q, values []string) [][2]int {
	var l [][2]int
	for i, a := range q {
		for j, b := range values {
			if distance.Similar(r, a, b) {
				l = append(l, [2]int{i, j})
			}
		}
	}
	return l
}

// pairing returns the first of the greatest pairings by trying all.
func pairings(pairs, taken, best [][2]int) [][2]int {
	if len(taken) > len(best) {
		best = slices.Clone(taken)
	}
	for n, p := range pairs {
		free := !slices.ContainsFunc(taken, func(x [2]int) bool { return x[0] == p[0] || x[1] == p[1] })
		if free {
			best = pairings(pairs[n+1:], append(taken, p), best)
		}
	}
	return best
}

func TestP21_1(t *testing.T) {
	q, values := []string{"bat", "cat"}, []string{"bat", "rat"}
	equal(t, "example", list(Matches(edit, q, values), Covered(edit, q, values), Pairing(edit, q, values)), list([][2]int{{0, 0}, {0, 1}, {1, 0}, {1, 1}}, 2, [][2]int{{0, 0}, {1, 1}}))
	for i, x := range []struct {
		r    api.Rule
		q, v []string
	}{{api.Rule{}, q, q}, {api.Rule{Kind: api.RuleEdit, Limit: 9}, q, q}, {same, []string{"b", "a"}, q}, {same, q, []string{"a", "a"}}} {
		equal(t, fmt.Sprint(i), list(Matches(x.r, x.q, x.v), Covered(x.r, x.q, x.v), Pairing(x.r, x.q, x.v)), list([][2]int{}, 0, [][2]int{}))
	}
	r := rand.New(rand.NewSource(1))
	for range 3000 {
		rule, q, values := rule(r), words(r), words(r)
		want := matches(rule, q, values)
		covered := map[int]bool{}
		for _, p := range want {
			covered[p[0]] = true
		}
		equal(t, fmt.Sprintf("%v %q %q", rule, q, values), list(Matches(rule, q, values), Covered(rule, q, values), Pairing(rule, q, values)), list(want, len(covered), pairings(want, nil, nil)))
	}
}

// TestPairing pairs by lists of neighbours, which can be any here.
func TestPairing(t *testing.T) {
	r := rand.New(rand.NewSource(1))
	for range 20000 {
		near := make([][]int, r.Intn(6))
		var all [][2]int
		for i := range near {
			for j := range 5 {
				if r.Intn(3) == 0 {
					near[i], all = append(near[i], j), append(all, [2]int{i, j})
				}
			}
		}
		equal(t, fmt.Sprint(near), newPairing(near, 5).first(), pairings(all, nil, nil))
	}
}

func TestP21_2(t *testing.T) {
	x, q := index("bat rat", "dog", "cat"), []string{"bat", "cat", "dog"}
	hits, e := Top(edit, x, q, 2)
	third, _ := fraction.Of(1, 3)
	more, _ := fraction.Of(2, 3)
	equal(t, "top", list(hits, e), list([]api.Hit{{Ref: api.Ref{Table: 1}, Score: more}, {Ref: api.Ref{Table: 2}, Score: more}}, 0))
	near, e := Near(edit, x, q)
	equal(t, "near", list(near, e), list([][]int{{0, 2}, {0, 2}, {1}}, 0))
	hits, _ = Top(same, x, q, 9)
	equal(t, "all", list(len(hits), hits[1].Score), list(3, third))
	near[0][0] = 9
	equal(t, "no shared memory", Same(x), true)
	for i, c := range []struct {
		r    api.Rule
		x    api.Index
		q    []string
		k    int
		e, f api.Errno
	}{{same, api.Index{Values: q}, q, -1, 1, 1}, {api.Rule{}, x, q, -1, 1, 1}, {same, x, []string{"b", "a"}, -1, 1, 1}, {same, x, q, -1, 2, 0}, {same, x, q, api.MaxK + 1, 2, 0}, {same, x, nil, api.MaxK, 0, 0}} {
		h, e := Top(c.r, c.x, c.q, c.k)
		n, f := Near(c.r, c.x, c.q)
		equal(t, fmt.Sprint(i), list(e, f, h, f == api.OK || n == nil), list(c.e, c.f, []api.Hit{}, true))
	}
	r := rand.New(rand.NewSource(1))
	for range 1000 {
		columns := [][]string{words(r), words(r), words(r)}
		var x api.Index
		for i, c := range columns {
			x, _ = posting.Add(x, api.Ref{Table: i}, c)
		}
		rule, q := rule(r), words(r)
		near, _ := Near(rule, x, q)
		covered := [3]int{}
		for i := range q {
			var want []int
			for n, c := range columns {
				if Covered(rule, q[i:i+1], c) > 0 {
					want = append(want, n)
					covered[n]++
				}
			}
			equal(t, "near", near[i], want)
		}
		hits, _ := Top(rule, x, q, 3)
		for i, h := range hits {
			s, _ := fraction.Of(covered[h.Ref.Table], len(q))
			equal(t, "score", h.Score, s)
			equal(t, "order", i > 0 && fraction.Cmp(hits[i-1].Score, h.Score) < 0, false)
			covered[h.Ref.Table] = 0
		}
		equal(t, "all", covered, [3]int{})
		exact, _, _ := containment.Top(api.CoverQuery, x, q, 2)
		hits, _ = Top(same, x, q, 2)
		equal(t, "equal values", hits, exact)
	}
}

// Same reports whether the example's index is unchanged.
func Same(x api.Index) bool { return posting.Same(x, index("bat rat", "dog", "cat")) }

func TestNoSets(t *testing.T) {
	set, no := []string{"a", "b"}, []string{"b", "a"}
	for _, x := range [][2][]string{{set, no}, {no, set}} {
		equal(t, "no set", list(Matches(same, x[0], x[1]), Covered(edit, x[0], x[1]), Pairing(edit, x[0], x[1])), list([][2]int{}, 0, [][2]int{}))
	}
	hits, e := Top(same, index("a"), set, 0)
	equal(t, "k", list(hits, e), list([]api.Hit{}, 0))
}
