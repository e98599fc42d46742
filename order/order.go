// Package order has the orders of references and paths that several layers share.
package order

import (
	"cmp"
	"slices"

	"tablefinder/api"
)

// Refs orders references by Table, then by Column.
func Refs(a, b api.Ref) int {
	return cmp.Or(cmp.Compare(a.Table, b.Table), cmp.Compare(a.Column, b.Column))
}

// Steps orders steps by From, then by To.
func Steps(a, b api.Step) int { return cmp.Or(Refs(a.From, b.From), Refs(a.To, b.To)) }

// Paths orders paths by Start, then by the first step that differs; a beginning comes first.
func Paths(a, b api.Path) int {
	return cmp.Or(cmp.Compare(a.Start, b.Start), slices.CompareFunc(a.Steps, b.Steps, Steps))
}
