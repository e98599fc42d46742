package unit

import (
	"fmt"
	"strings"
	"testing"

	"tablefinder/api"
	"tablefinder/types"
)

func equal(t *testing.T, what string, got, want any) {
	t.Helper()
	if g, w := fmt.Sprintf("%+v", got), fmt.Sprintf("%+v", want); g != w {
		t.Errorf("%s:\n got %s\nwant %s", what, g, w)
	}
}

func list(l ...any) []any { return l }

// column makes a column of texts with commas between them, where _ is null.
func column(s string) api.Column {
	c := api.Column{Name: "n"}
	for _, s := range strings.Split(s, ",") {
		c.Cells = append(c.Cells, api.Cell{Null: s == "_", Text: strings.Trim(s, "_")})
	}
	return c
}

func TestP12_1(t *testing.T) {
	s := ""
	for _, u := range Units() {
		s += fmt.Sprint(u.Name, " ", u.Base, " ", u.Num, "/", u.Den, ";")
	}
	equal(t, "units", s, "kg kg 1/1;g kg 1/1000;t kg 1000/1;m m 1/1;km m 1000/1;cm m 1/100;mm m 1/1000;s s 1/1;min s 60/1;h s 3600/1;ms s 1/1000;% % 1/1;")
	Units()[0].Name = "x"
	equal(t, "no shared memory", Units()[0].Name, "kg")
	for s, want := range map[string]string{"2.5 km": "2.5/km", " -4cm ": "-4/cm", "+07   %": "+07/%", "1ms": "1/ms", "5": "none", "km": "none", "5 KM": "none", "5. km": "none", "1e5 m": "none", "5 k m": "none", "5 km x": "none", "5\tkm": "none", "": "none", "1 2 m": "none", "1-m": "none", "1234567890123456 m": "none", "5 furlong": "none", "5 é": "none"} {
		number, u, ok := Split(s)
		got := number + "/" + u.Name
		if !ok {
			equal(t, s, list(number, u), list("", api.Unit{}))
			got = "none"
		}
		equal(t, s, got, want)
	}
	names := map[string]api.Unit{}
	for _, u := range Units() {
		names[u.Name] = u
	}
	for _, x := range [][3]string{{"2.5", "km", "2500"}, {"-4", "cm", "-0.04"}, {"+0.10", "min", "6"}, {"-0.0", "g", "0"}, {"0.000000001", "m", "0.000000001"}, {"0.000000001", "mm", "none"}, {"0.000001", "g", "0.000000001"}, {"-0.000000001", "t", "-0.000001"},
		{"999999999999999", "m", "999999999999999"}, {"999999999999999", "km", "none"}, {"999999999999", "km", "999999999999000"}, {"999999999999999.999999", "mm", "999999999999.999999999"}, {"999999999999999.9999999", "mm", "none"}, {"1.", "m", "none"}, {" 1", "m", "none"}, {"1", "x", "none"}} {
		got, ok := Convert(x[0], names[x[1]])
		if !ok {
			equal(t, "no text", got, "")
			got = "none"
		}
		equal(t, x[0]+x[1], got, x[2])
	}
	_, ok := Convert("1", api.Unit{Name: "km", Base: "m", Num: 100, Den: 1})
	equal(t, "not one of the units", ok, false)
}

func TestP12_2(t *testing.T) {
	o := func(s string, pro, contra int) api.Option { return api.Option{Text: s, For: pro, Against: contra} }
	l := Options(column("1 km,2m,_,3 s,0.0000000001 m,999999999999999 km"))
	equal(t, "options", l, []api.Option{o("kg", 0, 5), o("m", 2, 3), o("s", 1, 4), o("%", 0, 5)})
	equal(t, "take", list(Take(l), Take(Options(column("1 km,2m,_"))), Take(Options(column("_"))), Take(Options(column("1%"))), Take([]api.Option{o("x", 1, 1), o("y", 0, 0), o("z", 2, 0), o("m", 3, 0)})), list("", "m", "", "%", "z"))
	equal(t, "known", list(Known("kg"), Known("m"), Known("s"), Known("%"), Known(""), Known("km")), list(true, true, true, true, false, false))
}

func TestP12_3(t *testing.T) {
	c := column("2.5 km,_,300 m,4cm")
	a, e := Apply(c, "m")
	equal(t, "apply", list(a, e), list(column("2500,_,300,0.04"), 0))
	_, ok := types.Numbers(a)
	equal(t, "numbers", ok, true)
	a, e = Apply(c, "")
	equal(t, "no base", list(a, e), list(c, 0))
	a.Cells[0].Text = "!"
	equal(t, "argument", c, column("2.5 km,_,300 m,4cm"))
	for _, x := range []struct {
		cells, base string
		e           api.Errno
	}{{"1", "km", api.ErrMissing}, {"1 s", "m", api.ErrFormat}, {"1", "m", api.ErrFormat}, {"0.000000001 mm", "m", api.ErrFormat}, {"_", "m", api.OK}} {
		a, e := Apply(column(x.cells), x.base)
		equal(t, x.cells, list(e, e == api.OK || a.Name == ""), list(x.e, true))
	}
}

func TestConsequence(t *testing.T) {
	a, _ := Apply(column("1 h,60 min,3600 s,3600000ms"), "s")
	equal(t, "the same quantity", a, column("3600,3600,3600,3600"))
}

func TestFirst(t *testing.T) {
	number, u, ok := Split("5 kg")
	equal(t, "kg", list(number, u.Name, ok), list("5", "kg", true))
	equal(t, "take", Take(Options(column("1 kg,5 g"))), "kg")
}
