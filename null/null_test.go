package null

import (
	"fmt"
	"reflect"
	"strings"
	"testing"

	"tablefinder/api"
)

func equal(t *testing.T, what string, got, want any) {
	t.Helper()
	if g, w := fmt.Sprintf("%+v", got), fmt.Sprintf("%+v", want); g != w {
		t.Errorf("%s:\n got %s\nwant %s", what, g, w)
	}
}

func list(l ...any) []any { return l }

// column makes a column of texts, where _ is null (with a text, which does not count).
func column(l ...string) api.Column {
	c := api.Column{Name: "n"}
	for _, s := range l {
		c.Cells = append(c.Cells, api.Cell{Null: s == "_", Text: s})
	}
	return c
}

func TestP10_1(t *testing.T) {
	equal(t, "markers", strings.Join(Markers(), " "), "NA N/A n/a null NULL none None nan NaN - -- ? . #N/A")
	Markers()[0] = "x"
	equal(t, "no shared memory", Markers()[0], "NA")
	equal(t, "example", Options(column("3", "NA", "5", "-")), []api.Option{{Text: "NA", For: 1}, {Text: "-", For: 1}})
	equal(t, "all", Options(column(" NA ", "#N/A", "NA", "_", "", "  ", "yes", "no", "12:30", "na")), []api.Option{{Text: "NA", For: 2, Against: 3}, {Text: "#N/A", For: 1, Against: 3}})
	equal(t, "none", list(Options(column("a", "Na")), Options(api.Column{})), list([]api.Option{}, []api.Option{}))
	null := column("NA")
	null.Cells[0].Null = true
	equal(t, "null", len(Options(null)), 0)
}

func TestP10_2(t *testing.T) {
	for _, x := range []struct {
		cells []string
		want  string
	}{{[]string{"3", "NA", "5", "-"}, "NA|-"}, {[]string{"yes", "none", "maybe"}, ""}, {nil, ""}} {
		equal(t, x.want, Take(Options(column(x.cells...))), x.want)
	}
	equal(t, "some", Take([]api.Option{{Text: "b"}, {Text: "x", Against: 1}, {Text: "a", For: 9}}), "b|a")
	long := strings.Repeat("x", 1025)
	many := strings.Split("a b c d e f g h i j k l m n o p q", " ")
	for _, l := range [][]string{nil, {"-"}, {"NA", "a b", "é"}, {long[1:]}, many[1:]} {
		s, ok := Text(l)
		back, good := Parse(s)
		equal(t, s, list(s, ok, back, good), list(strings.Join(l, "|"), true, l, true))
	}
	for _, l := range [][]string{{""}, {"a|b"}, {" a"}, {"a "}, {"a", "b", "a"}, {"\xff"}, {long}, many} {
		s, ok := Text(l)
		equal(t, fmt.Sprint(l), list(s, ok), list("", false))
	}
	for _, s := range []string{"|", "a|", "|a", "a||b", "a|a", " a", "a| b", "\xff", long, strings.Join(many, "|")} {
		l, ok := Parse(s)
		equal(t, s, list(l, ok), list([]string{}, false))
	}
}

func TestP10_3(t *testing.T) {
	c := column("a", " NA ", "", "_", "-", "b ")
	want := column("a", "", "", "", "", "b ")
	for _, i := range []int{1, 2, 3} {
		want.Cells[i].Null = true
	}
	want.Cells[4].Text = "-"
	got := Apply(c, []string{"NA", "x"})
	equal(t, "apply", got, want)
	equal(t, "again", Apply(got, []string{"NA", "x"}), got)
	got.Cells[0].Text = "!"
	if !reflect.DeepEqual(c, column("a", " NA ", "", "_", "-", "b ")) {
		t.Error("shared memory")
	}
	equal(t, "no markers", Apply(column("NA", " "), nil).Cells, []api.Cell{{Text: "NA"}, {Null: true}})
}
