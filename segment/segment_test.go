package segment

import (
	"fmt"
	"math/rand"
	"slices"
	"strings"
	"testing"

	"tablefinder/api"
	"tablefinder/fraction"
	"tablefinder/posting"
	"tablefinder/profile"
)

func equal(t *testing.T, what string, got, want any) {
	t.Helper()
	if g, w := fmt.Sprintf("%+v", got), fmt.Sprintf("%+v", want); g != w {
		t.Errorf("%s:\n got %s\nwant %s", what, g, w)
	}
}

func list(l ...any) []any { return l }

// tab makes a table of columns of words, where _ is null.
func tab(id int, columns ...string) api.Table {
	t := api.Table{ID: id}
	for _, words := range columns {
		var c api.Column
		for _, w := range strings.Fields(words) {
			c.Cells = append(c.Cells, api.Cell{Null: w == "_", Text: strings.Trim(w, "_")})
		}
		t.Columns = append(t.Columns, c)
	}
	return t
}

func ref(t, c int) api.Ref { return api.Ref{Table: t, Column: c} }

// add makes segments, one of each list of tables.
func add(lists ...[]api.Table) api.Segments {
	var x api.Segments
	for _, l := range lists {
		x, _ = Add(x, l)
	}
	return x
}

func build(l ...api.Table) api.Index { x, _ := posting.Build(l); return x }

func example() api.Segments {
	return add([]api.Table{tab(1, "x a", "y _"), tab(4, "x z")}, []api.Table{tab(2, "x y")})
}

func invalid() []api.Segments {
	var l []api.Segments
	for _, change := range []func(x *api.Segments){
		func(x *api.Segments) { x.Gone = x.Gone[:1] }, func(x *api.Segments) { x.Gone = append(x.Gone, nil) }, func(x *api.Segments) { x.Gone[0] = []int{2} }, func(x *api.Segments) { x.Gone[0] = []int{4, 1} }, func(x *api.Segments) { x.Gone[0] = []int{1, 1} },
		func(x *api.Segments) { x.List[0].Tables = []int{4, 1} }, func(x *api.Segments) { x.List[0].Tables = []int{1} }, func(x *api.Segments) { x.List[0].Tables = []int{-1, 1, 4} }, func(x *api.Segments) { x.List[0].Tables = []int{1, 4, api.MaxID + 1} }, func(x *api.Segments) { x.List[1] = x.List[0] }, func(x *api.Segments) { x.List[0].Index.Entries[0].Size++ },
		func(x *api.Segments) { x.List[0].Index.Lists[0][0] = 99 },
		func(x *api.Segments) { x.List, x.Gone = make([]api.Segment, 65), make([][]int, 65) },
	} {
		x := example()
		change(&x)
		l = append(l, x)
	}
	return l
}

func TestP40_1(t *testing.T) {
	s, e := Make([]api.Table{tab(1, "x a"), tab(4)})
	equal(t, "make", list(s, e), list(api.Segment{Tables: []int{1, 4}, Index: build(tab(1, "x a"))}, 0))
	s, e = Make([]api.Table{tab(4), tab(1)})
	equal(t, "invalid", list(s, e), list(api.Segment{}, 1))
	equal(t, "valid", list(Valid(api.Segments{}), Valid(example()), Valid(api.Segments{List: make([]api.Segment, 64), Gone: make([][]int, 64)})), list(true, true, true))
	twice := example()
	twice.List[1], twice.Gone = twice.List[0], [][]int{{1, 4}, nil}
	equal(t, "gone in one", list(Valid(twice), Tables(twice)), list(true, []int{1, 4}))
	equal(t, "tables", list(Tables(example()), Tables(api.Segments{})), list([]int{1, 2, 4}, []int{}))
	equal(t, "whole", list(Whole(example()), Whole(api.Segments{})), list(build(tab(1, "x a", "y _"), tab(2, "x y"), tab(4, "x z")), api.Index{}))
	for i, x := range invalid() {
		a, e := Add(x, []api.Table{tab(4)})
		b, f := Remove(x, 99)
		c, g := Merge(x, 0, 0)
		equal(t, fmt.Sprint(i), list(Valid(x), a, e, b, f, c, g), list(false, api.Segments{}, 1, api.Segments{}, 1, api.Segments{}, 1))
		Lookup(x, "x")
		Counts(x, []string{"x", "a"})
		Tables(x)
		Whole(x)
	}
}

func TestP40_2(t *testing.T) {
	x := example()
	y, e := Add(x, []api.Table{tab(3, "q"), tab(9)})
	equal(t, "add", list(len(y.List), y.List[2], y.Gone, e), list(3, api.Segment{Tables: []int{3, 9}, Index: build(tab(3, "q"))}, [][]int{{}, {}, {}}, 0))
	full := api.Segments{List: make([]api.Segment, 64), Gone: make([][]int, 64)}
	full.List[5] = api.Segment{Tables: []int{7}}
	for i, c := range []struct {
		x api.Segments
		l []api.Table
		e api.Errno
	}{{x, []api.Table{tab(4), tab(1)}, 1}, {x, []api.Table{tab(0), tab(4)}, 6}, {full, []api.Table{tab(7)}, 6}, {full, nil, 3}, {api.Segments{List: full.List[1:], Gone: full.Gone[1:]}, nil, 0}} {
		z, e := Add(c.x, c.l)
		equal(t, fmt.Sprint(i), list(e, e == api.OK || z.List == nil), list(c.e, true))
	}
	y, e = Remove(x, 4)
	equal(t, "remove", list(y.Gone, len(y.List), e, Tables(y), Whole(y)), list([][]int{{4}, {}}, 2, 0, []int{1, 2}, build(tab(1, "x a", "y _"), tab(2, "x y"))))
	y, _ = Remove(y, 1)
	equal(t, "ascending", y.Gone, [][]int{{1, 4}, {}})
	z, e := Remove(y, 4)
	equal(t, "missing", list(z, e), list(api.Segments{}, 5))
	y, e = Add(y, []api.Table{tab(4, "new")})
	z, f := Merge(y, 2, 0)
	equal(t, "merge", list(e, f, len(z.List), z.List[0], z.List[1], z.Gone), list(0, 0, 2, api.Segment{Tables: []int{4}, Index: build(tab(4, "new"))}, y.List[1], [][]int{{}, {}}))
	for _, p := range [][2]int{{0, 0}, {-1, 0}, {0, 3}, {3, 0}, {0, -1}} {
		z, e := Merge(y, p[0], p[1])
		equal(t, fmt.Sprint(p), list(z, e), list(api.Segments{}, 2))
	}
	z, _ = Merge(y, 0, 1)
	z.List[0].Index.Lists[0][0], z.List[1].Tables[0] = 9, 9
	equal(t, "argument", list(Valid(y), x), list(true, example()))
}

func TestP40_3(t *testing.T) {
	x := example()
	equal(t, "lookup", list(Lookup(x, "x"), Lookup(x, "y"), Lookup(x, "?")), list([]api.Ref{ref(1, 0), ref(2, 0), ref(4, 0)}, []api.Ref{ref(1, 1), ref(2, 0)}, []api.Ref{}))
	x, _ = Remove(x, 1)
	equal(t, "removed", Lookup(x, "x"), []api.Ref{ref(2, 0), ref(4, 0)})
	one, _ := fraction.Of(1, 1)
	two, _ := fraction.Of(2, 1)
	equal(t, "counts", list(Counts(x, []string{"y", "x", "x", "q", "y"}), Counts(x, nil)), list([]api.Hit{{Ref: ref(2, 0), Score: two}, {Ref: ref(4, 0), Score: one}}, []api.Hit{}))
}

func TestConsequences(t *testing.T) {
	r := rand.New(rand.NewSource(1))
	for range 200 {
		var x api.Segments
		tables := map[int]api.Table{}
		for range 12 {
			switch r.Intn(3) {
			case 0:
				id := r.Intn(5)
				a, b := tab(id, strings.Join(strings.Split("abcd", "")[:r.Intn(5)], " "), "_ x"[:r.Intn(4)]), tab(id+1, "a d")
				if len(a.Columns[0].Cells) != len(a.Columns[1].Cells) {
					a.Columns = a.Columns[:1]
				}
				if y, e := Add(x, []api.Table{a, b}); e == api.OK {
					x, tables[id], tables[id+1] = y, a, b
				}
			case 1:
				id := r.Intn(6)
				y, e := Remove(x, id)
				_, there := tables[id]
				equal(t, "remove", e == api.OK, there)
				if there {
					x = y
					delete(tables, id)
				}
			case 2:
				if y, e := Merge(x, r.Intn(4), r.Intn(4)); e == api.OK {
					equal(t, "no change", list(Lookup(y, "a"), Counts(y, []string{"a", "b"})), list(Lookup(x, "a"), Counts(x, []string{"a", "b"})))
					x = y
				}
			}
			var l []api.Table
			var ids []int
			for id := range 6 {
				if a, ok := tables[id]; ok {
					l, ids = append(l, a), append(ids, id)
				}
			}
			equal(t, "whole", list(Valid(x), Whole(x), Tables(x)), list(true, build(l...), ids))
			var refs []api.Ref
			for _, a := range l {
				for j, c := range a.Columns {
					if slices.Contains(profile.Values(c), "a") {
						refs = append(refs, ref(a.ID, j))
					}
				}
			}
			equal(t, "lookup", Lookup(x, "a"), refs)
		}
	}
}

func TestMore(t *testing.T) {
	x := example()
	Remove(x, 1)
	equal(t, "argument", x, example())
	_, e := Make([]api.Table{tab(api.MaxID, "a")})
	equal(t, "greatest ID", list(e, Valid(add([]api.Table{tab(api.MaxID, "a")}))), list(0, true))
	y := add([]api.Table{tab(1, "x"), tab(2, "x")})
	y, _ = Remove(y, 1)
	equal(t, "behind one that is gone", Lookup(y, "x"), []api.Ref{ref(2, 0)})
}

func TestAddArgument(t *testing.T) {
	x := example()
	y, _ := Add(x, nil)
	y.List[0].Tables[0], y.List[0].Index.Entries[0].Size = 9, 9
	equal(t, "argument", x, example())
}
