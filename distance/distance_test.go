package distance

import (
	"fmt"
	"math"
	"math/rand"
	"strings"
	"testing"

	"tablefinder/api"
)

func equal(t *testing.T, what string, got, want any) {
	t.Helper()
	if g, w := fmt.Sprintf("%+v", got), fmt.Sprintf("%+v", want); g != w {
		t.Errorf("%s:\n got %s\nwant %s", what, g, w)
	}
}

func list(l ...any) []any { return l }

// plain is the definition of the edit distance.
func plain(a, b []rune) int {
	costs := make([][]int, len(a)+1)
	for i := range costs {
		costs[i] = make([]int, len(b)+1)
		for j := range costs[i] {
			switch {
			case i == 0 || j == 0:
				costs[i][j] = i + j
			case a[i-1] == b[j-1]:
				costs[i][j] = costs[i-1][j-1]
			default:
				costs[i][j] = 1 + min(costs[i-1][j-1], costs[i-1][j], costs[i][j-1])
			}
		}
	}
	return costs[len(a)][len(b)]
}

func TestP16_1(t *testing.T) {
	for _, x := range []struct {
		a, b string
		want int
	}{{"kitten", "sitting", 3}, {"", "", 0}, {"", "abc", 3}, {"é", "e", 1}, {"日本", "日", 1}, {"\xff", "\xfe", 0}, {"ab", "ba", 2}} {
		equal(t, x.a+x.b, list(Edit(x.a, x.b), Edit(x.b, x.a)), list(x.want, x.want))
	}
	r := rand.New(rand.NewSource(1))
	random := func() string {
		s := ""
		for range r.Intn(12) {
			s += []string{"a", "b", "é"}[r.Intn(3)]
		}
		return s
	}
	for range 20000 {
		a, b, c := random(), random(), random()
		d := plain([]rune(a), []rune(b))
		limit := r.Intn(14) - 1
		n, ok := Within(a, b, limit)
		want := list(d, true)
		if d > limit {
			want = list(0, false)
		}
		equal(t, fmt.Sprintf("%q %q %d", a, b, limit), list(Edit(a, b), n, ok), append(list(d), want...))
		if Edit(a, c) > Edit(a, b)+Edit(b, c) {
			t.Error("no metric", a, b, c)
		}
	}
	long := strings.Repeat("ab", 512)
	n, ok := Within(long, "x"+long[1:], math.MaxInt)
	equal(t, "long", list(Edit(long, strings.Repeat("ba", 512)), n, ok), list(2, 1, true))
	n, ok = Within("a", "a", math.MinInt)
	equal(t, "negative", list(n, ok), list(0, false))
}

func TestP16_2(t *testing.T) {
	a, b := []string{"a", "b", "d"}, []string{"", "b", "c", "d"}
	equal(t, "sets", list(Common(a, b), Union(a, b), Common(a, nil), Union(a, nil), Union(nil, nil)), list(2, 5, 0, 3, 0))
	no := []string{"a", "a"}
	equal(t, "no sets", list(Common(no, a), Common(a, no), Union(no, a), Union(a, no)), list(0, 0, 0, 0))
	c, n := Tokens("New York new", "york (old)")
	d, m := Tokens("", "--")
	equal(t, "tokens", list(c, n, d, m), list(1, 3, 0, 0))
}

func TestP16_3(t *testing.T) {
	for _, x := range []struct {
		r  api.Rule
		ok bool
	}{
		{api.Rule{}, false}, {api.Rule{Kind: 1}, true}, {api.Rule{Kind: 1, Limit: 1}, false}, {api.Rule{Kind: 1, Num: 1}, false}, {api.Rule{Kind: 1, Den: 1}, false}, {api.Rule{Kind: 4}, false},
		{api.Rule{Kind: 2}, true}, {api.Rule{Kind: 2, Limit: 8}, true}, {api.Rule{Kind: 2, Limit: 9}, false}, {api.Rule{Kind: 2, Limit: -1}, false}, {api.Rule{Kind: 2, Den: 1}, false},
		{api.Rule{Kind: 3, Num: 1, Den: 1000}, true}, {api.Rule{Kind: 3, Num: 1000, Den: 1000}, true}, {api.Rule{Kind: 3, Num: 1, Den: 1001}, false}, {api.Rule{Kind: 3, Num: 2, Den: 1}, false}, {api.Rule{Kind: 3, Num: 0, Den: 1}, false}, {api.Rule{Kind: 3, Num: 1, Den: 1, Limit: 1}, false},
	} {
		equal(t, fmt.Sprint(x.r), list(Valid(x.r), Similar(x.r, "a", "a")), list(x.ok, x.ok))
	}
	half := api.Rule{Kind: api.RuleToken, Num: 1, Den: 2}
	for _, x := range []struct {
		r    api.Rule
		a, b string
		want bool
	}{
		{api.Rule{Kind: 1}, "a", "b", false}, {api.Rule{Kind: 1}, "\xff", "\xfe", false}, {api.Rule{Kind: 2}, "\xff", "\xfe", true}, {api.Rule{Kind: 2, Limit: 1}, "bat", "cat", true}, {api.Rule{Kind: 2, Limit: 1}, "bat", "cut", false},
		{half, "New York", "york (new)", true}, {half, "a b", "b", true}, {half, "a b", "b c", false}, {half, "--", "--", true}, {half, "--", "-", false}, {half, "", "a", false},
	} {
		equal(t, x.a+" "+x.b, list(Similar(x.r, x.a, x.b), Similar(x.r, x.b, x.a)), list(x.want, x.want))
	}
}

func TestP16_4(t *testing.T) {
	for _, x := range []struct {
		r         api.Rule
		n         int
		low, high int
		ok        bool
	}{
		{api.Rule{Kind: 1}, 5, 5, 5, true}, {api.Rule{Kind: 2, Limit: 3}, 5, 2, 8, true}, {api.Rule{Kind: 2, Limit: 3}, 1, 0, 4, true}, {api.Rule{Kind: 2, Limit: 3}, -1, 0, 0, false}, {api.Rule{Kind: 3, Num: 1, Den: 2}, 5, 0, 0, false}, {api.Rule{}, 5, 0, 0, false}, {api.Rule{Kind: 2, Limit: 9}, 5, 0, 0, false},
		{api.Rule{Kind: 2, Limit: 8}, math.MaxInt, math.MaxInt - 8, math.MaxInt, true},
	} {
		low, high, ok := Lengths(x.r, x.n)
		equal(t, fmt.Sprint(x), list(low, high, ok), list(x.low, x.high, x.ok))
	}
}
