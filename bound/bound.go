// Package bound says what a certificate shows of the columns of an index, and checks answers by that.
package bound

import (
	"slices"

	"tablefinder/api"
	"tablefinder/fraction"
	"tablefinder/posting"
)

// Score returns the score of a column of some size with common values, if it has one.
type Score func(common, size int) (api.Fraction, bool)

// Before reports whether a hit is ordered before another one.
type Before func(a, b api.Hit) bool

// Lists returns the numbers of those values of an index that a query has, ascending.
func Lists(x api.Index, q []string) []int {
	var l []int
	for _, value := range q {
		if i, found := slices.BinarySearch(x.Values, value); found && i < len(x.Lists) {
			l = append(l, i)
		}
	}
	return l
}

// counts returns for each column how many of some lists have it.
func counts(x api.Index, lists []int) []int {
	n := make([]int, len(x.Entries))
	for _, i := range lists {
		for _, column := range x.Lists[i] {
			if column >= 0 && column < len(n) {
				n[column]++
			}
		}
	}
	return n
}

// Known returns a closure that says what a valid certificate shows of the overlap of a column.
func Known(x api.Index, q []string, c api.Certificate) func(column int) (low, high int) {
	lists := Lists(x, q)
	read := slices.DeleteFunc(slices.Clone(lists), func(i int) bool {
		_, found := slices.BinarySearch(c.Lists, i)
		return !found
	})
	exact, least := counts(x, lists), counts(x, read)
	return func(column int) (low, high int) {
		if column < 0 || column >= len(exact) {
			return 0, 0
		}
		if _, found := slices.BinarySearch(c.Columns, column); found {
			return exact[column], exact[column]
		}
		return least[column], min(least[column]+len(lists)-len(read), x.Entries[column].Size)
	}
}

// Hits returns the hits of all columns with a score greater than 0, in order, and the certificate that
// names all values of the query. The lists of these values are all that has to be read: an index has
// no shorter way to the values of a column.
func Hits(x api.Index, q []string, score Score, before Before) ([]api.Hit, api.Certificate) {
	lists := Lists(x, q)
	var hits []api.Hit
	for column, common := range counts(x, lists) {
		e := x.Entries[column]
		if s, ok := score(common, e.Size); ok && common > 0 {
			hits = append(hits, api.Hit{Ref: e.Ref, Score: s})
		}
	}
	slices.SortFunc(hits, func(a, b api.Hit) int {
		switch {
		case before(a, b):
			return -1
		case before(b, a):
			return 1
		}
		return 0
	})
	return hits, api.Certificate{Lists: lists}
}

// columns returns the numbers of the columns of hits, if these are different, in order, and each has the
// score of both bounds of its column, greater than 0.
func columns(x api.Index, hits []api.Hit, known func(int) (int, int), score Score, before Before) (map[int]bool, bool) {
	taken := map[int]bool{}
	for i, h := range hits {
		column := posting.Column(x, h.Ref)
		if column < 0 || taken[column] || i > 0 && !before(hits[i-1], h) {
			return nil, false
		}
		taken[column] = true
		low, high := known(column)
		s, ok := score(low, x.Entries[column].Size)
		if !ok || low != high || low < 1 || !fraction.Valid(h.Score) || fraction.Cmp(h.Score, s) != 0 {
			return nil, false
		}
	}
	return taken, true
}

// Follow reports whether hits follow from what is known, if excluded says of each other column that could
// have a score, by its best hit, that it is no hit.
func Follow(x api.Index, hits []api.Hit, known func(int) (int, int), score Score, before Before, excluded func(best api.Hit) bool) bool {
	taken, ok := columns(x, hits, known, score, before)
	if !ok {
		return false
	}
	for column, e := range x.Entries {
		if taken[column] {
			continue
		}
		_, high := known(column)
		if s, ok := score(high, e.Size); ok && high > 0 && !excluded(api.Hit{Ref: e.Ref, Score: s}) {
			return false
		}
	}
	return true
}

// Behind returns what Follow asks of other columns for the first k hits: their best hits are ordered
// behind the last one of k, and with k 0 nothing is asked.
func Behind(hits []api.Hit, k int, before Before) func(best api.Hit) bool {
	return func(best api.Hit) bool {
		return k == 0 || len(hits) == k && before(hits[k-1], best)
	}
}
