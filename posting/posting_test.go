package posting

import (
	"fmt"
	"math/rand"
	"slices"
	"strconv"
	"testing"

	"tablefinder/api"
	"tablefinder/profile"
	"tablefinder/table"
	"tablefinder/text"
)

func equal(t *testing.T, what string, got, want any) {
	t.Helper()
	if g, w := fmt.Sprintf("%+v", got), fmt.Sprintf("%+v", want); g != w {
		t.Errorf("%s:\n got %s\nwant %s", what, g, w)
	}
}

func list(l ...any) []any { return l }

func ref(t, c int) api.Ref { return api.Ref{Table: t, Column: c} }

func entry(t, c, size int) api.Entry { return api.Entry{Ref: ref(t, c), Size: size} }

// example is the index of the columns 1.0 with a, b and 2.0 with b.
func example() api.Index {
	return api.Index{Entries: []api.Entry{entry(1, 0, 2), entry(2, 0, 1)}, Values: []string{"a", "b"}, Lists: [][]int{{0}, {0, 1}}}
}

func changed(f func(x *api.Index)) api.Index {
	x := example()
	f(&x)
	return x
}

func invalid() []api.Index {
	return []api.Index{
		changed(func(x *api.Index) { x.Entries[0].Ref.Table = 2 }), changed(func(x *api.Index) { x.Entries[0].Ref.Table = -1 }), changed(func(x *api.Index) { x.Entries[1].Ref.Table = api.MaxID + 1 }), changed(func(x *api.Index) { x.Entries[0].Ref.Column = -1 }),
		changed(func(x *api.Index) { x.Values[1] = "a" }), changed(func(x *api.Index) { x.Values = x.Values[:1] }), changed(func(x *api.Index) { x.Lists = x.Lists[:1] }), changed(func(x *api.Index) { x.Lists[0] = nil }), changed(func(x *api.Index) { x.Lists[1] = []int{1, 0} }), changed(func(x *api.Index) { x.Lists[1] = []int{0, 2} }), changed(func(x *api.Index) { x.Lists[0] = []int{-1} }),
		changed(func(x *api.Index) { x.Entries[0].Size = 1 }), {Entries: []api.Entry{entry(1, 0, 1)}},
	}
}

func TestP18_1(t *testing.T) {
	equal(t, "new", list(New(), Valid(New()), Valid(example()), Valid(api.Index{Entries: []api.Entry{entry(0, 5, 0), entry(api.MaxID, 0, 0)}})), list(api.Index{}, true, true, true))
	for i, x := range invalid() {
		_, a := Add(x, ref(-1, 0), nil)
		_, b := Remove(x, ref(1, 0))
		_, c := Merge(x, New())
		_, d := Merge(New(), x)
		equal(t, fmt.Sprint(i), list(Valid(x), a, b, c, d), list(false, 1, 1, 1, 1))
		for column := -1; column < 4; column++ {
			Values(x, column)
		}
		List(x, "b")
		Column(x, ref(1, 0))
		Sizes(x, -9, 9)
		Entries(x)
	}
	cell := func(s string) api.Cell { return api.Cell{Text: s, Null: s == ""} }
	l := []api.Table{{ID: 1, Columns: []api.Column{{Cells: []api.Cell{cell("b"), cell("a"), cell("b")}}, {Cells: make([]api.Cell, 3)}}}, {ID: 2, Columns: []api.Column{{Cells: []api.Cell{cell("b"), cell("")}}, {Cells: []api.Cell{cell(""), cell("")}}}}}
	x, e := Build(l)
	want := api.Index{Entries: []api.Entry{entry(1, 0, 2), entry(1, 1, 1), entry(2, 0, 1), entry(2, 1, 0)}, Values: []string{"", "a", "b"}, Lists: [][]int{{1}, {0}, {0, 2}}}
	equal(t, "build", list(x, e, Valid(x)), list(want, 0, true))
	x, e = Build([]api.Table{{ID: 1}, {ID: 1}})
	equal(t, "invalid", list(x, e), list(api.Index{}, api.ErrInvalid))
}

func TestP18_2(t *testing.T) {
	x, _ := Add(New(), ref(2, 0), []string{"b"})
	y, e := Add(x, ref(1, 0), []string{"a", "b"})
	equal(t, "add", list(y, e), list(example(), 0))
	many := make([]string, 4097)
	for i := range many {
		many[i] = fmt.Sprintf("%05d", i)
	}
	for i, c := range []struct {
		r      api.Ref
		values []string
		e      api.Errno
	}{{ref(-1, 0), []string{"b", "a"}, 1}, {ref(-1, 0), many, 2}, {ref(api.MaxID+1, 0), nil, 2}, {ref(1, -1), nil, 2}, {ref(1, 0), many, 3}, {ref(1, 0), nil, 6}, {ref(1, 1), many[1:], 0}} {
		z, e := Add(y, c.r, c.values)
		equal(t, fmt.Sprint(i), list(e, e == api.OK && Valid(z) || Same(z, New())), list(c.e, true))
	}
	z, e := Remove(y, ref(1, 0))
	equal(t, "remove", list(z, e), list(x, 0))
	z, e = Remove(y, ref(1, 1))
	equal(t, "missing", list(z, e), list(New(), api.ErrMissing))
	w, _ := Add(New(), ref(1, 0), []string{"a", "b"})
	m, e := Merge(x, w)
	equal(t, "merge", list(m, e), list(example(), 0))
	m, e = Merge(y, x)
	equal(t, "exists", list(m, e), list(New(), api.ErrExists))
	m, _ = Merge(y, New())
	m.Lists[1][0], m.Entries[0].Size, m.Values[0] = 9, 9, "!"
	equal(t, "argument", y, example())
}

func TestP18_3(t *testing.T) {
	x := example()
	equal(t, "column", list(Column(x, ref(1, 0)), Column(x, ref(2, 0)), Column(x, ref(1, 1)), Column(x, ref(9, 9)), Column(New(), ref(0, 0))), list(0, 1, -1, -1, -1))
	equal(t, "values", list(Values(x, 0), Values(x, 1), Values(x, 2), Values(x, -1)), list([]string{"a", "b"}, []string{"b"}, []string{}, []string{}))
	l, ok := List(x, "b")
	equal(t, "list", list(l, ok), list([]int{0, 1}, true))
	l[0] = 9
	equal(t, "no shared memory", x, example())
	l, ok = List(x, "c")
	equal(t, "no list", list(l, ok), list([]int{}, false))
	equal(t, "sizes", list(Sizes(x, 1, 2), Sizes(x, 2, 9), Sizes(x, 3, 2), Entries(x), Entries(New())), list([]int{0, 1}, []int{0}, []int{}, 3, 0))
	for i, y := range invalid() {
		equal(t, fmt.Sprint(i), Same(x, y), false)
	}
	equal(t, "same", list(Same(x, example()), Same(api.Index{Values: []string{}}, New())), list(true, true))
}

func TestConsequences(t *testing.T) {
	r := rand.New(rand.NewSource(1))
	for range 200 {
		var l []api.Table
		for id := range r.Intn(4) {
			a := api.Table{ID: 2 * id, Columns: make([]api.Column, r.Intn(3))}
			for j := range a.Columns {
				for range 3 {
					a.Columns[j].Cells = append(a.Columns[j].Cells, api.Cell{Text: strconv.Itoa(r.Intn(6))})
				}
			}
			l = append(l, a)
		}
		want, _ := Build(l)
		refs := table.Refs(l)
		r.Shuffle(len(refs), func(i, j int) { refs[i], refs[j] = refs[j], refs[i] })
		parts := [2]api.Index{}
		x, sum := New(), 0
		for _, ref := range refs {
			c, _ := table.Get(l, ref)
			before := x
			x, _ = Add(x, ref, profile.Values(c))
			back, _ := Remove(x, ref)
			equal(t, "back", Same(back, before), true)
			n := r.Intn(2)
			parts[n], _ = Add(parts[n], ref, profile.Values(c))
		}
		a, _ := Merge(parts[0], parts[1])
		b, _ := Merge(parts[1], parts[0])
		equal(t, "built", list(x, a, b), list(want, want, want))
		for i, e := range want.Entries {
			sum += e.Size
			c, _ := table.Get(l, e.Ref)
			equal(t, "values", Values(want, i), profile.Values(c))
		}
		equal(t, "entries", list(Entries(want), text.IsSet(want.Values), slices.IsSorted(want.Values)), list(sum, true, true))
	}
}

func TestMore(t *testing.T) {
	m, e := Merge(example(), changed(func(x *api.Index) { x.Entries[1].Ref.Table = 3 }))
	equal(t, "the first column in both", list(m, e), list(New(), api.ErrExists))
	twice := changed(func(x *api.Index) {
		x.Lists[1] = []int{0, 0, 1}
		x.Entries[0].Size = 3
	})
	equal(t, "twice in a list", Valid(twice), false)
}
