package similarity

import (
	"fmt"
	"strings"
	"testing"

	"tablefinder/api"
	"tablefinder/fraction"
)

func equal(t *testing.T, what string, got, want any) {
	t.Helper()
	if g, w := fmt.Sprintf("%+v", got), fmt.Sprintf("%+v", want); g != w {
		t.Errorf("%s:\n got %s\nwant %s", what, g, w)
	}
}

func list(l ...any) []any { return l }

// column makes a column of words, where _ is null.
func column(name, words string) api.Column {
	c := api.Column{Name: name}
	for _, w := range strings.Fields(words) {
		c.Cells = append(c.Cells, api.Cell{Null: w[0] == '_', Text: strings.Trim(w, "_")})
	}
	return c
}

func TestP26_1(t *testing.T) {
	for name, want := range map[string][]string{"Unit Price_2": {"2", "price", "unit"}, "": {}, "--": {}, "a A a1": {"a", "a1"}, "éaéB\xffc\x00d": {"a", "b", "c", "d"}, "Zz[\\]^`az{09/:@": {"09", "az", "zz"}} {
		equal(t, name, fmt.Sprintf("%q", Words(name)), fmt.Sprintf("%q", want))
	}
	for _, x := range [][3]string{{"Unit price", "PRICE", "1/2"}, {"a b", "b c", "1/3"}, {"a", "b", "0"}, {"", "", "0"}, {"", "a", "0"}, {"a a", "A", "1"}} {
		equal(t, x[0], list(fraction.Text(Names(x[0], x[1])), fraction.Text(Names(x[1], x[0]))), list(x[2], x[2]))
	}
}

func TestP26_2(t *testing.T) {
	for _, x := range [][3]string{{"a b b _x", "b c x", "1/4"}, {"a", "a a", "1"}, {"_a", "a", "0"}, {"_", "", "0"}, {"a b", "c", "0"}} {
		a, b := column("", x[0]), column("", x[1])
		equal(t, x[0], list(fraction.Text(Values(a, b)), fraction.Text(Values(b, a))), list(x[2], x[2]))
	}
	for words, want := range map[string]string{"1 x 2.5 _3": "2/3", "": "0", "_": "0", "x": "0", "1 +2": "1", "2020-01-01 yes": "0"} {
		equal(t, words, fraction.Text(Share(column("", words))), want)
	}
}

func TestP26_3(t *testing.T) {
	for _, x := range []struct {
		a, b api.Column
		want string
	}{
		{column("a b", "1 2 x"), column("a", "1 3"), "5/12"}, // (2 * 1/4 + 1/2 + 1 - 1/3) / 4 = 5/12
		{column("a", "1 2"), column("a", "2 1 1"), "1"}, {column("a", "1"), column("b", "2"), "0"}, {column("a", "x"), column("a", "1"), "1/4"}, {column("a", "1"), column("b", "1"), "3/4"}, {column("", ""), column("", ""), "0"}, {column("a", ""), column("a", "_"), "1/2"},
	} {
		equal(t, fmt.Sprint(x), list(fraction.Text(Of(x.a, x.b)), fraction.Text(Of(x.b, x.a))), list(x.want, x.want))
	}
}

func TestNullFirst(t *testing.T) {
	equal(t, "share", fraction.Text(Share(column("", "_ 1 x"))), "1/2")
}
