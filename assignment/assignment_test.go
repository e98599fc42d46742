package assignment

import (
	"fmt"
	"math/rand"
	"slices"
	"testing"

	"tablefinder/api"
	"tablefinder/fraction"
)

func equal(t *testing.T, what string, got, want any) {
	t.Helper()
	if g, w := fmt.Sprintf("%+v", got), fmt.Sprintf("%+v", want); g != w {
		t.Errorf("%s:\n got %s\nwant %s", what, g, w)
	}
}

func list(l ...any) []any { return l }

func frac(n, d int) api.Fraction { f, _ := fraction.Of(n, d); return f }

// weights makes rows of weights in halves.
func weights(rows ...[]int) [][]api.Fraction {
	var w [][]api.Fraction
	for _, row := range rows {
		var l []api.Fraction
		for _, n := range row {
			l = append(l, frac(n, 2))
		}
		w = append(w, l)
	}
	return w
}

func side(rows, columns int) [][]api.Fraction {
	return weights(slices.Repeat([][]int{make([]int, columns)}, rows)...)
}

func TestP27_1(t *testing.T) {
	for i, x := range []struct {
		w [][]api.Fraction
		e api.Errno
	}{{nil, 0}, {side(8, 8), 0}, {side(9, 1), 3}, {side(1, 9), 3}, {weights([]int{-1, 2}, make([]int, 9)), 3}, {weights([]int{-1, 2}, []int{1}), 1}, {weights([]int{1}, []int{-1}), 2}, {weights(nil, nil), 0}, {weights(nil, []int{1}), 1}} {
		l, s, e := Best(x.w)
		_, f := Weight(x.w, make([]int, 99))
		if x.e == 0 {
			f = 0
		}
		equal(t, fmt.Sprint(i), list(Valid(x.w), e, f, e == api.OK || l == nil && s.Den.Words == nil), list(x.e, x.e, x.e, true))
	}
}

func TestP27_2(t *testing.T) {
	w := weights([]int{3, 2}, []int{2, 0})
	for _, x := range []struct {
		l []int
		n int
		e api.Errno
	}{{[]int{1, 0}, 4, 0}, {[]int{-1, -1}, 0, 0}, {[]int{0, 1}, 3, 0}, {[]int{1}, 0, 1}, {nil, 0, 1}, {[]int{0, -2}, 0, 2}, {[]int{2, 0}, 0, 2}, {[]int{0, 0}, 0, 6}} {
		s, e := Weight(w, x.l)
		want := frac(x.n, 2)
		if x.e != 0 {
			want = api.Fraction{}
		}
		equal(t, fmt.Sprint(x.l), list(s, e), list(want, x.e))
	}
	_, e := Weight(weights([]int{1}, []int{1}, []int{1}), []int{0, 0, 7})
	equal(t, "first the range", e, api.ErrRange)
	s, e := Weight(nil, nil)
	equal(t, "nothing", list(s, e), list(frac(0, 1), 0))
}

// exhaustive returns the first heaviest assignment of all: they are tried in order.
func exhaustive(w [][]api.Fraction) ([]int, api.Fraction) {
	var best []int
	most := frac(-1, 1)
	var try func(l []int)
	try = func(l []int) {
		if len(l) == len(w) {
			if s, e := Weight(w, l); e == api.OK && fraction.Cmp(s, most) > 0 {
				best, most = slices.Clone(l), s
			}
			return
		}
		for column, f := range w[len(l)] {
			if fraction.Cmp(f, frac(0, 1)) > 0 {
				try(append(slices.Clone(l), column))
			}
		}
		try(append(slices.Clone(l), -1))
	}
	try(nil)
	return best, most
}

func TestP27_3(t *testing.T) {
	l, s, e := Best(weights([]int{6, 4}, []int{4, 0}))
	equal(t, "example", list(l, s, e), list([]int{1, 0}, frac(4, 1), 0))
	l, s, e = Best(nil)
	equal(t, "nothing", list(l, s, e), list([]int{}, frac(0, 1), 0))
	l, s, _ = Best(side(2, 3))
	equal(t, "zeros", list(l, s), list([]int{-1, -1}, frac(0, 1)))
	r := rand.New(rand.NewSource(1))
	for range 2000 {
		rows := make([][]int, r.Intn(5))
		columns := r.Intn(5)
		for i := range rows {
			for range columns {
				rows[i] = append(rows[i], r.Intn(4))
			}
		}
		w := weights(rows...)
		l, s, e := Best(w)
		best, most := exhaustive(w)
		equal(t, fmt.Sprint(rows), list(l, s, e), list(best, most, 0))
		for i := range w {
			for j := range w[i] {
				w[i][j], _ = fraction.Mul(w[i][j], frac(7, 3))
			}
		}
		m, _, _ := Best(w)
		equal(t, "multiplied", m, l)
	}
	full := side(8, 8)
	for i := range full {
		for j := range full {
			full[i][j] = frac(1+(i*j*j+i)%7, 1+(i+j)%5)
		}
	}
	l, s, e = Best(full)
	back, _ := Weight(full, l)
	equal(t, "full", list(s, e), list(back, 0))
}
