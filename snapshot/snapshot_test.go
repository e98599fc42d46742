package snapshot

import (
	"fmt"
	"math/rand"
	"slices"
	"testing"

	"tablefinder/api"
	"tablefinder/table"
)

func equal(t *testing.T, what string, got, want any) {
	t.Helper()
	if g, w := fmt.Sprintf("%+v", got), fmt.Sprintf("%+v", want); g != w {
		t.Errorf("%s:\n got %s\nwant %s", what, g, w)
	}
}

func list(l ...any) []any { return l }

func tab(id int, text string) api.Table {
	return api.Table{ID: id, Columns: []api.Column{{Name: "a", Cells: []api.Cell{{Text: text}}}}}
}

func item(t api.Table, from, until int) api.Item {
	return api.Item{Table: t, From: from, Until: until}
}

func collection(version, oldest int, items ...api.Item) api.Collection {
	return api.Collection{Version: version, Oldest: oldest, Items: items}
}

var a, b, c = tab(1, "a"), tab(2, "b"), tab(1, "c")

func invalid() []api.Collection {
	return []api.Collection{collection(1, 2), collection(1, -1), collection(-1, -1), collection(api.MaxVersion+1, 0), collection(3, 0, item(tab(0, ""), 1, 0)), collection(3, 0, item(tab(api.MaxID+1, ""), 1, 0)), collection(3, 0, item(tab(1, "\xff"), 1, 0)),
		collection(3, 0, item(a, 0, 0)), collection(3, 0, item(a, 4, 0)), collection(3, 0, item(a, 2, 2)), collection(3, 0, item(a, 2, 1)), collection(3, 0, item(a, 1, 4)), collection(3, 0, item(a, 1, -1)), collection(3, 0, item(a, 1, 0), item(c, 2, 3)), collection(3, 0, item(c, 2, 0), item(a, 1, 3)), collection(3, 0, item(a, 1, 2), item(c, 1, 2)),
		collection(2000, 0, make([]api.Item, 1025)...)}
}

func TestP41_1(t *testing.T) {
	for i, x := range invalid() {
		p, e := Put(x, a)
		d, f := Drop(x, 1)
		l, g := At(x, -9)
		v, h := Vacuum(x, -9)
		equal(t, fmt.Sprint(i), list(Valid(x), p, e, d, f, l, g, v, h), list(false, api.Collection{}, 1, api.Collection{}, 1, []api.Table{}, 1, api.Collection{}, 1))
	}
	equal(t, "valid", list(Valid(api.Collection{}), Valid(collection(api.MaxVersion, api.MaxVersion, item(a, 1, 2), item(b, 1, 0), item(c, 2, 0)))), list(true, true))
	x, e := Put(api.Collection{}, a)
	equal(t, "put", list(x, e), list(collection(1, 0, item(a, 1, 0)), 0))
	x, _ = Put(x, b)
	y, e := Put(x, c)
	equal(t, "again", list(y, e), list(collection(3, 0, item(a, 1, 3), item(b, 2, 0), item(c, 3, 0)), 0))
	z, e := Drop(y, 1)
	equal(t, "drop", list(z, e), list(collection(4, 0, item(a, 1, 3), item(b, 2, 0), item(c, 3, 4)), 0))
	z.Items[0].Table.Columns[0].Cells[0].Text = "!"
	equal(t, "argument", list(x, y), list(collection(2, 0, item(a, 1, 0), item(b, 2, 0)), collection(3, 0, item(a, 1, 3), item(b, 2, 0), item(c, 3, 0))))
	_, e = Put(x, tab(0, "a"))
	_, f := Put(x, tab(1, "\xff"))
	_, g := Put(collection(api.MaxVersion, 0), a)
	_, h := Drop(z, 1)
	_, i := Drop(collection(api.MaxVersion, 0), 1)
	_, j := Drop(collection(api.MaxVersion, 0, item(a, 1, 0)), 1)
	equal(t, "errors", list(e, f, g, h, i, j), list(1, 1, 3, 5, 5, 3))
	full := collection(5, 0)
	for n := range 1024 {
		full.Items = append(full.Items, item(tab(n+1, ""), 1, 0))
	}
	_, e = Put(full, tab(2000, ""))
	_, f = Drop(full, 7)
	equal(t, "full", list(Valid(full), e, f), list(true, 3, 0))
}

func TestP41_2(t *testing.T) {
	x := collection(4, 0, item(b, 2, 0), item(a, 1, 3), item(c, 3, 4))
	for version, want := range [][]api.Table{nil, {a}, {a, b}, {c, b}, {b}} {
		l, e := At(x, version)
		equal(t, fmt.Sprint(version), list(l, e), list(want, 0))
	}
	l, _ := At(x, 1)
	l[0].Columns[0].Cells[0].Text = "!"
	equal(t, "no shared memory", a, tab(1, "a"))
	y, e := Vacuum(x, 3)
	equal(t, "vacuum", list(y, e), list(collection(4, 3, item(b, 2, 0), item(c, 3, 4)), 0))
	equal(t, "argument", x, collection(4, 0, item(b, 2, 0), item(a, 1, 3), item(c, 3, 4)))
	for i, v := range []struct {
		version int
		at, old api.Errno
	}{{2, api.ErrVersion, api.ErrVersion}, {5, api.ErrVersion, api.ErrVersion}, {-1, api.ErrVersion, api.ErrVersion}, {3, 0, 0}, {4, 0, 0}} {
		_, e := At(y, v.version)
		z, f := Vacuum(y, v.version)
		equal(t, fmt.Sprint(i), list(e, f, f == api.OK || z.Version == 0), list(v.at, v.old, true))
	}
}

// TestConsequences compares every version that can be read with what was there when it was made.
func TestConsequences(t *testing.T) {
	r := rand.New(rand.NewSource(1))
	for range 200 {
		var x api.Collection
		versions := [][]api.Table{nil}
		for range 15 {
			now := slices.Clone(versions[len(versions)-1])
			id := 1 + r.Intn(3)
			there := slices.ContainsFunc(now, func(t api.Table) bool { return t.ID == id })
			now = slices.DeleteFunc(now, func(t api.Table) bool { return t.ID == id })
			switch r.Intn(4) {
			case 0, 1:
				a := tab(id, fmt.Sprint(r.Intn(100)))
				x, _ = Put(x, a)
				now = append(now, a)
				slices.SortFunc(now, func(a, b api.Table) int { return a.ID - b.ID })
				versions = append(versions, now)
			case 2:
				if y, e := Drop(x, id); e == api.OK {
					x = y
					versions = append(versions, now)
					equal(t, "there", there, true)
				}
			case 3:
				x, _ = Vacuum(x, x.Oldest+r.Intn(x.Version-x.Oldest+1))
			}
			for v := x.Oldest; v <= x.Version; v++ {
				l, e := At(x, v)
				equal(t, "version", list(l, e, Valid(x), table.ValidList(l)), list(versions[v], 0, true, true))
			}
		}
	}
}

func TestArgument(t *testing.T) {
	given := tab(1, "a")
	x, _ := Put(api.Collection{}, given)
	x.Items[0].Table.Columns[0].Cells[0].Text = "!"
	equal(t, "put", given, tab(1, "a"))
}
