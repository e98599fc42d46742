package correlation

import (
	"fmt"
	"math/big"
	"math/rand"
	"slices"
	"strconv"
	"strings"
	"testing"

	"tablefinder/api"
	"tablefinder/fraction"
)

func equal(t *testing.T, what string, got, want any) {
	t.Helper()
	if g, w := fmt.Sprintf("%+v", got), fmt.Sprintf("%+v", want); g != w {
		t.Errorf("%s:\n got %s\nwant %s", what, g, w)
	}
}

func list(l ...any) []any { return l }

func frac(n, d int) api.Fraction { f, _ := fraction.Of(n, d); return f }

// points makes pairs of integers.
func points(l ...int) [][2]api.Fraction {
	var p [][2]api.Fraction
	for i := 0; i+1 < len(l); i += 2 {
		p = append(p, [2]api.Fraction{frac(l[i], 1), frac(l[i+1], 1)})
	}
	return p
}

// column makes a column of words, where _ is null.
func column(words string) api.Column {
	var c api.Column
	for _, w := range strings.Fields(words) {
		c.Cells = append(c.Cells, api.Cell{Null: w == "_", Text: strings.Trim(w, "_")})
	}
	return c
}

func texts(m api.Moments) []any {
	l := list(m.N)
	for _, f := range []api.Fraction{m.X, m.Y, m.XX, m.YY, m.XY} {
		l = append(l, fraction.Text(f))
	}
	return l
}

func TestP25_1(t *testing.T) {
	equal(t, "none", Of(nil), api.Moments{X: frac(0, 1), Y: frac(0, 1), XX: frac(0, 1), YY: frac(0, 1), XY: frac(0, 1)})
	m := Of([][2]api.Fraction{{frac(1, 2), frac(3, 1)}, {frac(-1, 3), frac(2, 1)}})
	equal(t, "sums", texts(m), list(2, "1/6", "5", "13/36", "13", "5/6"))
	equal(t, "add", texts(Add(m, frac(1, 1), frac(-1, 1))), list(3, "7/6", "4", "49/36", "14", "-1/6"))
	equal(t, "argument", m.N, 2)
}

func TestP25_2(t *testing.T) {
	for _, x := range []struct {
		l     []int
		score string
		sign  int
		ok    bool
	}{
		{[]int{1, 2, 2, 4, 3, 6}, "1", 1, true}, {[]int{1, 6, 2, 4, 3, 2}, "1", -1, true}, {[]int{1, 1, 2, 1, 3, 1}, "0", 0, false}, {[]int{1, 1, 1, 2, 1, 3}, "0", 0, false}, {[]int{1, 2, 2, 4}, "0", 0, false}, {nil, "0", 0, false}, {[]int{0, 0, 1, 1, 2, 0}, "0", 0, true}, {[]int{0, 0, 1, 2, 2, 1}, "1/4", 1, true},
	} {
		s, sign, ok := Square(Of(points(x.l...)))
		equal(t, fmt.Sprint(x.l), list(fraction.Text(s), sign, ok), list(x.score, x.sign, x.ok))
	}
	s, sign, ok := Square(api.Moments{N: 5})
	equal(t, "invalid", list(s, sign, ok), list(frac(0, 1), 0, false))
	r := rand.New(rand.NewSource(1))
	for range 500 {
		var l [][2]api.Fraction
		n, x, y, xx, yy, xy := new(big.Rat), new(big.Rat), new(big.Rat), new(big.Rat), new(big.Rat), new(big.Rat)
		for range r.Intn(7) {
			a, b, c, d := r.Intn(9)-4, 1+r.Intn(5), r.Intn(9)-4, 1+r.Intn(3)
			l = append(l, [2]api.Fraction{frac(a, b), frac(c, d)})
			p, q := big.NewRat(int64(a), int64(b)), big.NewRat(int64(c), int64(d))
			n.Add(n, big.NewRat(1, 1))
			x.Add(x, p)
			y.Add(y, q)
			xx.Add(xx, new(big.Rat).Mul(p, p))
			yy.Add(yy, new(big.Rat).Mul(q, q))
			xy.Add(xy, new(big.Rat).Mul(p, q))
		}
		spread := func(a, b, c *big.Rat) *big.Rat {
			return new(big.Rat).Sub(new(big.Rat).Mul(n, a), new(big.Rat).Mul(b, c))
		}
		c, u, v := spread(xy, x, y), spread(xx, x, x), spread(yy, y, y)
		want := list("0", 0, false)
		if len(l) >= 3 && u.Sign() != 0 && v.Sign() != 0 {
			s := new(big.Rat).Quo(new(big.Rat).Mul(c, c), new(big.Rat).Mul(u, v))
			want = list(s.RatString(), c.Sign(), true)
		}
		s, sign, ok := Square(Of(l))
		equal(t, fmt.Sprint(l), list(fraction.Text(s), sign, ok), want)
		for i := range l { // a line of another level and slope changes nothing
			l[i][0] = plus(times(l[i][0], frac(-3, 2)), frac(1, 7))
		}
		s, other, ok := Square(Of(l))
		equal(t, "line", list(fraction.Text(s), -other, ok), want)
	}
}

// TestLarge has the largest numbers that are specified.
func TestLarge(t *testing.T) {
	long := func(seed uint32) api.Big {
		b := api.Big{Words: make([]uint32, 16)}
		for i := range b.Words {
			seed = seed*1664525 + 1013904223
			b.Words[i] = seed | 1
		}
		return b
	}
	var l [][2]api.Fraction
	for i := range uint32(16) {
		x, _ := fraction.Make(long(i), long(99))
		y, _ := fraction.Make(long(i+50), long(100))
		l = append(l, [2]api.Fraction{x, y})
	}
	s, sign, ok := Square(Of(l))
	equal(t, "large", list(ok, sign != 0, fraction.Cmp(s, frac(1, 1)), fraction.Valid(s)), list(true, true, -1, true))
}

func TestP25_3(t *testing.T) {
	p := Pairs(column("b a a _ c d"), column("1 2 3 9 x 4"), column("a d b d e a"), column("5 1 _ 2 7 x"))
	equal(t, "pairs", p, [][2]api.Fraction{{frac(5, 2), frac(5, 1)}, {frac(4, 1), frac(3, 2)}})
	equal(t, "none", list(Pairs(column("a"), column("1"), column("b"), column("1")), Pairs(api.Column{}, api.Column{}, api.Column{}, api.Column{})), list(points(), points()))
	Pairs(column("a b"), column("1"), column("b a"), column("1"))
	Pairs(column("a"), column("1 2"), column("b"), column("1 2"))
}

func TestP25_4(t *testing.T) {
	key, value := column("a b c d"), column("1 2 3 9")
	l := []api.Table{{ID: 1, Columns: []api.Column{column("a b c x"), column("2 4 6 0"), column("3 1 2 7")}}, {ID: 3, Columns: []api.Column{column("1 1 1"), column("a b c"), column("3 2 1")}}}
	c := func(table, key, value, n, d, sign int) api.Correlated {
		return api.Correlated{Key: api.Ref{Table: table, Column: key}, Value: api.Ref{Table: table, Column: value}, Score: frac(n, d), Sign: sign, N: 3}
	}
	got, e := Top(l, key, value, 9)
	equal(t, "top", list(got, e), list([]api.Correlated{c(1, 0, 1, 1, 1, 1), c(3, 1, 2, 1, 1, -1), c(1, 0, 2, 1, 4, -1)}, 0))
	got, _ = Top(l, key, value, 1)
	equal(t, "first", got, []api.Correlated{c(1, 0, 1, 1, 1, 1)})
	many := api.Column{Cells: make([]api.Cell, 4097)}
	for i, x := range []struct {
		l    []api.Table
		a, b api.Column
		k    int
		e    api.Errno
	}{{[]api.Table{{ID: -1}}, key, value, -1, 2}, {l, key, value, api.MaxK + 1, 2}, {[]api.Table{{ID: -1}}, key, value, 1, 1}, {l, key, column("1"), 0, 1}, {l, many, many, 1, 1}, {l, key, value, 0, 0}, {nil, key, value, api.MaxK, 0}} {
		got, e := Top(x.l, x.a, x.b, x.k)
		equal(t, fmt.Sprint(i), list(got, e), list([]api.Correlated{}, x.e))
	}
	r := rand.New(rand.NewSource(1))
	words := func(n int) api.Column {
		s := ""
		for range n {
			s += " " + []string{strconv.Itoa(r.Intn(6)), strconv.Itoa(r.Intn(6)), "_", "1.5"}[r.Intn(4)]
		}
		return column(s)
	}
	for range 200 {
		key, value := words(8), words(8)
		l := []api.Table{{ID: 2, Columns: []api.Column{words(7), words(7), words(7)}}, {ID: 5, Columns: []api.Column{words(6), words(6)}}}
		var want []api.Correlated
		for _, a := range l {
			for i := range a.Columns {
				for j := range a.Columns {
					m := Of(Pairs(key, value, a.Columns[i], a.Columns[j]))
					if s, sign, ok := Square(m); ok && i != j && sign != 0 {
						want = append(want, api.Correlated{Key: api.Ref{Table: a.ID, Column: i}, Value: api.Ref{Table: a.ID, Column: j}, Score: s, Sign: sign, N: m.N})
					}
				}
			}
		}
		slices.SortStableFunc(want, func(a, b api.Correlated) int { return fraction.Cmp(b.Score, a.Score) })
		got, _ := Top(l, key, value, 4)
		equal(t, "top", got, want[:min(4, len(want))])
	}
}

func TestMost(t *testing.T) {
	many := api.Column{Cells: make([]api.Cell, api.MaxRows)}
	_, e := Top(nil, many, many, 1)
	equal(t, "rows", e, api.OK)
}
