// Package clone copies values of api, so that results share no memory with arguments.
package clone

import (
	"slices"

	"tablefinder/api"
)

// Each returns a list with a copy of each element.
func Each[T any](l []T, one func(T) T) []T {
	if len(l) == 0 {
		return nil
	}
	c := make([]T, len(l))
	for i, x := range l {
		c[i] = one(x)
	}
	return c
}

// List copies a list whose elements share no memory.
func List[T any](l []T) []T { return slices.Clip(slices.Clone(l)) }

// Column copies a column.
func Column(c api.Column) api.Column {
	c.Cells = List(c.Cells)
	return c
}

// Table copies a table.
func Table(t api.Table) api.Table {
	t.Columns = Each(t.Columns, Column)
	return t
}

// Fraction copies a fraction.
func Fraction(f api.Fraction) api.Fraction {
	f.Num.Words, f.Den.Words = List(f.Num.Words), List(f.Den.Words)
	return f
}

// Index copies an index.
func Index(x api.Index) api.Index {
	return api.Index{Entries: List(x.Entries), Values: List(x.Values), Lists: Each(x.Lists, List[int])}
}

// Segments copies segments.
func Segments(x api.Segments) api.Segments {
	return api.Segments{
		List: Each(x.List, func(s api.Segment) api.Segment { return api.Segment{Tables: List(s.Tables), Index: Index(s.Index)} }),
		Gone: Each(x.Gone, List[int]),
	}
}

// Collection copies a collection.
func Collection(c api.Collection) api.Collection {
	c.Items = Each(c.Items, func(i api.Item) api.Item { return api.Item{Table: Table(i.Table), From: i.From, Until: i.Until} })
	return c
}

// Hit copies a hit.
func Hit(h api.Hit) api.Hit {
	h.Score = Fraction(h.Score)
	return h
}

func match(m api.Match) api.Match {
	m.Align, m.Score = List(m.Align), Fraction(m.Score)
	return m
}

func correlated(c api.Correlated) api.Correlated {
	c.Score = Fraction(c.Score)
	return c
}

func path(p api.Path) api.Path {
	p.Steps = List(p.Steps)
	return p
}

func route(r api.Route) api.Route {
	r.Path, r.Report.Unused = path(r.Path), List(r.Report.Unused)
	return r
}

func found(f api.Found) api.Found {
	f.View = api.View{Path: path(f.View.Path), Filters: List(f.View.Filters), Columns: List(f.View.Columns)}
	return f
}

// Answer copies an answer.
func Answer(a api.Answer) api.Answer {
	return api.Answer{
		Hits:       Each(a.Hits, Hit),
		Matches:    Each(a.Matches, match),
		Correlated: Each(a.Correlated, correlated),
		Routes:     Each(a.Routes, route),
		Found:      Each(a.Found, found),
	}
}

// Store copies a store.
func Store(s api.Store) api.Store {
	return api.Store{Collection: Collection(s.Collection), Index: Segments(s.Index), Rules: List(s.Rules)}
}

// Plant copies a plant.
func Plant(p api.Plant) api.Plant {
	return api.Plant{
		Now:     Store(p.Now),
		Durable: Store(p.Durable),
		Log:     Each(p.Log, func(s api.Saw) api.Saw { return api.Saw{Kind: s.Kind, Code: s.Code, Answer: Answer(s.Answer)} }),
	}
}
