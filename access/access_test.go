package access

import (
	"fmt"
	"math/rand"
	"strings"
	"testing"

	"tablefinder/api"
	"tablefinder/table"
)

func equal(t *testing.T, what string, got, want any) {
	t.Helper()
	if g, w := fmt.Sprintf("%+v", got), fmt.Sprintf("%+v", want); g != w {
		t.Errorf("%s:\n got %s\nwant %s", what, g, w)
	}
}

func list(l ...any) []any { return l }

func allow(user string, table, column int) api.Permission {
	return api.Permission{User: user, Allow: true, Table: table, Column: column}
}

func forbid(user string, table, column int) api.Permission {
	return api.Permission{User: user, Table: table, Column: column}
}

func ref(t, c int) api.Ref { return api.Ref{Table: t, Column: c} }

func tab(id int, cells ...string) api.Table {
	t := api.Table{ID: id, Name: "t"}
	for _, s := range cells {
		t.Columns = append(t.Columns, api.Column{Name: "n" + s, Cells: []api.Cell{{Text: s}, {Text: s}}})
	}
	return t
}

func TestP42_1(t *testing.T) {
	long := strings.Repeat("u", 41)
	for i, x := range []struct {
		l  []api.Permission
		ok bool
	}{
		{nil, true}, {[]api.Permission{allow("\xff", 0, -1), forbid(long[1:], api.MaxID, 63)}, true}, {[]api.Permission{allow("", 0, -1)}, false}, {[]api.Permission{allow(long, 0, -1)}, false}, {[]api.Permission{allow("u", -1, -1)}, false}, {[]api.Permission{allow("u", api.MaxID+1, -1)}, false}, {[]api.Permission{allow("u", 0, -2)}, false}, {[]api.Permission{allow("u", 0, 64)}, false}, {[]api.Permission{allow("u", 0, 0), {}}, false},
	} {
		equal(t, fmt.Sprint(i), Valid(x.l), x.ok)
	}
	var many []api.Permission
	for range 65 {
		many = append(many, allow("u", 0, 0))
	}
	equal(t, "number", list(Valid(many[1:]), Valid(many)), list(true, false))
	l := []api.Permission{allow("u", 0, -1), forbid("u", 7, 0), forbid("v", 0, -1), allow("v", 0, 2), forbid("w", 0, -1), allow("w", 3, -1), forbid("w", 0, 1)}
	for _, x := range []struct {
		user string
		r    api.Ref
		want bool
	}{{"u", ref(7, 1), true}, {"u", ref(7, 0), false}, {"u", ref(8, 0), true}, {"v", ref(8, 0), false}, {"v", ref(8, 2), true}, {"w", ref(3, 0), true}, {"w", ref(3, 1), false}, {"w", ref(4, 0), false}, {"x", ref(1, 0), false}, {"", ref(1, 0), false}} {
		equal(t, fmt.Sprint(x), May(l, x.user, x.r), x.want)
	}
	equal(t, "later ones count", list(May([]api.Permission{forbid("u", 1, 1), allow("u", 0, -1)}, "u", ref(1, 1)), May(nil, "u", ref(1, 1))), list(true, false))
}

func TestP42_2(t *testing.T) {
	tables := []api.Table{tab(7, "a", "b"), tab(2, "c"), tab(5), tab(9, "d", "e", "f")}
	l := []api.Permission{allow("u", 0, -1), forbid("u", 7, 0), forbid("u", 2, -1), forbid("u", 9, 1)}
	null := api.Column{Cells: []api.Cell{{Null: true}, {Null: true}}}
	want := []api.Table{tab(7, "a", "b"), tab(9, "d", "e", "f")}
	want[0].Columns[0], want[1].Columns[1] = null, null
	got := Visible(l, "u", tables)
	equal(t, "visible", got, want)
	got[0].Columns[1].Cells[0].Text = "!"
	equal(t, "argument", tables[0], tab(7, "a", "b"))
	equal(t, "nobody", list(Visible(l, "v", tables), Visible(nil, "u", tables), Visible(l, "u", nil)), list([]api.Table{}, []api.Table{}, []api.Table{}))
	equal(t, "no rows", len(Visible([]api.Permission{allow("u", 1, 0)}, "u", []api.Table{{ID: 1, Columns: make([]api.Column, 2)}})), 1)
}

// TestConsequences changes what may not be seen.
func TestConsequences(t *testing.T) {
	r := rand.New(rand.NewSource(1))
	for range 500 {
		var l []api.Permission
		for range r.Intn(6) {
			l = append(l, api.Permission{User: "u", Allow: r.Intn(3) > 0, Table: r.Intn(4), Column: r.Intn(4) - 1})
		}
		tables := []api.Table{tab(1, "a", "b"), tab(2, "c", "d", "e"), tab(3, "f")}
		before := Visible(l, "u", tables)
		for i := range tables {
			for j := range tables[i].Columns {
				c := &tables[i].Columns[j]
				if !May(l, "u", ref(tables[i].ID, j)) {
					c.Name, c.Cells = "changed", []api.Cell{{Text: "x"}, {Null: true}}
				}
			}
		}
		after := Visible(l, "u", tables)
		equal(t, "no influence", list(after, table.ValidList(after)), list(before, true))
	}
}
