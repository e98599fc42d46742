package types

import (
	"fmt"
	"math"
	"strings"
	"testing"
	"time"

	"tablefinder/api"
	"tablefinder/fraction"
)

func equal(t *testing.T, what string, got, want any) {
	t.Helper()
	if g, w := fmt.Sprintf("%+v", got), fmt.Sprintf("%+v", want); g != w {
		t.Errorf("%s:\n got %s\nwant %s", what, g, w)
	}
}

func list(l ...any) []any { return l }

// column makes a column of texts, where _ is null.
func column(l ...string) api.Column {
	c := api.Column{Name: "n"}
	for _, s := range l {
		c.Cells = append(c.Cells, api.Cell{Null: s == "_", Text: strings.Trim(s, "_")})
	}
	return c
}

func TestP11_1(t *testing.T) {
	for i, word := range []string{"text", "bool", "integer", "decimal", "date"} {
		name, ok := Name(i + 1)
		number, good := Named(word)
		equal(t, word, list(name, ok, number, good), list(word, true, i+1, true))
	}
	for _, n := range []int{0, 6, -1} {
		name, ok := Name(n)
		s, good := Canonical(n, "1")
		equal(t, "no type", list(name, ok, s, good), list("", false, "", false))
	}
	n, ok := Named("Text")
	equal(t, "no word", list(n, ok), list(0, false))
	for _, x := range []struct {
		kind    int
		s, want string
	}{
		{api.TypeText, " a ", " a "}, {api.TypeText, "\xff", "\xff"}, {api.TypeBool, " YES ", "true"}, {api.TypeBool, "True", "true"}, {api.TypeBool, "no", "false"}, {api.TypeBool, "FALSE", "false"}, {api.TypeBool, "1", "none"}, {api.TypeBool, "", "none"},
		{api.TypeInteger, " +007 ", "7"}, {api.TypeInteger, "-0", "0"}, {api.TypeInteger, "-010", "-10"}, {api.TypeInteger, "000", "0"}, {api.TypeInteger, "1.0", "none"}, {api.TypeInteger, "", "none"}, {api.TypeInteger, "1234567890123456", "none"}, {api.TypeInteger, "--1", "none"}, {api.TypeInteger, "+-1", "none"},
		{api.TypeDecimal, "+007.50", "7.5"}, {api.TypeDecimal, "-0.0", "0"}, {api.TypeDecimal, "-0.10", "-0.1"}, {api.TypeDecimal, "5.000", "5"}, {api.TypeDecimal, "100", "100"}, {api.TypeDecimal, "0.050", "0.05"}, {api.TypeDecimal, "1.", "none"}, {api.TypeDecimal, "1 .5", "none"},
		{api.TypeDate, " 2024-02-29 ", "2024-02-29"}, {api.TypeDate, "2024/12/31", "2024-12-31"}, {api.TypeDate, "31.12.0001", "0001-12-31"}, {api.TypeDate, "2023-02-29", "none"}, {api.TypeDate, "1900-02-29", "none"}, {api.TypeDate, "2000-02-29", "2000-02-29"}, {api.TypeDate, "0000-01-01", "none"}, {api.TypeDate, "2024-13-01", "none"}, {api.TypeDate, "2024-00-01", "none"}, {api.TypeDate, "2024-01-00", "none"}, {api.TypeDate, "2024-01/02", "none"}, {api.TypeDate, "2024-1-02", "none"}, {api.TypeDate, "1.1.2024", "none"}, {api.TypeDate, "12.31.2024", "none"}, {api.TypeDate, "+024-01-02", "none"}, {api.TypeDate, "abcdefghij", "none"}, {api.TypeDate, "", "none"},
	} {
		s, ok := Canonical(x.kind, x.s)
		if !ok {
			equal(t, x.s, s, "")
			s = "none"
		}
		equal(t, fmt.Sprint(x.kind, x.s), s, x.want)
	}
}

func TestP11_2(t *testing.T) {
	o := func(s string, pro, contra int) api.Option { return api.Option{Text: s, For: pro, Against: contra} }
	equal(t, "numbers", Options(column("1", "_", "2.5")), []api.Option{o("decimal", 2, 0), o("text", 2, 0), o("integer", 1, 1), o("bool", 0, 2), o("date", 0, 2)})
	equal(t, "nothing", Options(column("_")), []api.Option{o("bool", 0, 0), o("integer", 0, 0), o("decimal", 0, 0), o("date", 0, 0), o("text", 0, 0)})
	for s, want := range map[string]int{"": api.TypeText, "_": api.TypeText, "yes no": api.TypeBool, "1 _": api.TypeInteger, "1 2.0": api.TypeDecimal, "01.02.2003 2003-02-01": api.TypeDate, "1 yes": api.TypeText, "x": api.TypeText} {
		equal(t, s, Guess(column(strings.Fields(s)...)), want)
	}
}

func TestP11_3(t *testing.T) {
	c := column("07", "_", " 8.0")
	a, e := Apply(c, api.TypeDecimal)
	equal(t, "apply", list(a, e), list(column("7", "_", "8"), 0))
	a.Cells[0].Text = "!"
	equal(t, "argument", c, column("07", "_", " 8.0"))
	b, e := Apply(c, api.TypeInteger)
	equal(t, "does not fit", list(b, e), list(api.Column{}, api.ErrFormat))
	b, e = Apply(c, 0)
	equal(t, "no type", list(b, e), list(api.Column{}, api.ErrRange))
}

func TestP11_4(t *testing.T) {
	for _, x := range []struct {
		kind    int
		s, want string
	}{{api.TypeText, "1", "none"}, {0, "1", "none"}, {9, "1", "none"}, {api.TypeBool, " Yes", "1"}, {api.TypeBool, "no", "0"}, {api.TypeBool, "x", "none"}, {api.TypeInteger, " 07 ", "7"}, {api.TypeInteger, "7.0", "none"}, {api.TypeDecimal, " -2.50", "-5/2"}, {api.TypeDecimal, "x", "none"}, {api.TypeDate, "31.12.1969", "-1"}, {api.TypeDate, "1970-01-02", "1"}, {api.TypeDate, "1970-02-30", "none"}} {
		f, ok := Value(x.kind, x.s)
		got := "none"
		if ok {
			got = fraction.Text(f)
		} else {
			equal(t, x.s, f, api.Fraction{})
		}
		equal(t, fmt.Sprint(x.kind, x.s), got, x.want)
	}
	l, ok := Numbers(column("2", "_", "1.5", "2"))
	equal(t, "numbers", list(len(l), ok, fraction.Text(l[0]), fraction.Text(l[1])), list(3, true, "2", "3/2"))
	for _, c := range []api.Column{{}, column("_"), column("1", "x")} {
		l, ok := Numbers(c)
		equal(t, "no numbers", list(l, ok), list([]api.Fraction{}, false))
	}
}

func TestP11_5(t *testing.T) {
	at := time.Date(1, 1, 1, 0, 0, 0, 0, time.UTC)
	for n := firstDay; n <= lastDay; n++ {
		y, m, d := at.Date()
		day, ok := Day(y, int(m), d)
		a, b, c, good := Date(n)
		if day != n || !ok || a != y || b != int(m) || c != d || !good {
			t.Fatal(n, at, day, ok, a, b, c, good)
		}
		at = at.AddDate(0, 0, 1)
	}
	equal(t, "all years", at.Year(), 10000)
	for _, n := range []int{firstDay - 1, lastDay + 1, math.MinInt, math.MaxInt} {
		y, m, d, ok := Date(n)
		equal(t, "other years", list(y, m, d, ok), list(0, 0, 0, false))
	}
	for _, x := range [][3]int{{0, 1, 1}, {10000, 1, 1}, {2000, 0, 1}, {2000, 13, 1}, {2000, 1, 0}, {2000, 4, 31}, {2001, 2, 29}, {math.MaxInt, 2, 1}, {math.MinInt, math.MinInt, math.MinInt}} {
		n, ok := Day(x[0], x[1], x[2])
		equal(t, fmt.Sprint(x), list(n, ok), list(0, false))
	}
}

func TestConsequences(t *testing.T) {
	texts := []string{"", "a", "YES", "no", "+1", "01", "1.0", "1", "-0", "0.50", ".5", "2020-01-01", "01.01.2020", " 2020/01/01 "}
	for kind := 1; kind <= 5; kind++ {
		for _, a := range texts {
			c, ok := Canonical(kind, a)
			if !ok {
				continue
			}
			again, _ := Canonical(kind, c)
			equal(t, a, again, c)
			for _, b := range texts {
				x, _ := Value(kind, a)
				y, fits := Value(kind, b)
				d, _ := Canonical(kind, b)
				if fits {
					equal(t, a+" "+b, fraction.Text(x) == fraction.Text(y), c == d)
				}
			}
		}
	}
}

func TestNoDates(t *testing.T) {
	for _, s := range []string{"20a4-01-02", "2024-0a-02", "01.02-2024", "01-02.2024", "2024-01/02", "2024.01.02", "1.02.20241"} {
		c, ok := Canonical(api.TypeDate, s)
		_, good := Value(api.TypeDate, s)
		equal(t, s, list(c, ok, good), list("", false, false))
	}
}
