package reading

import (
	"fmt"
	"math"
	"math/rand"
	"strings"
	"testing"

	"tablefinder/api"
	"tablefinder/delimited"
	"tablefinder/sniff"
	"tablefinder/table"
)

func equal(t *testing.T, what string, got, want any) {
	t.Helper()
	if g, w := fmt.Sprintf("%+v", got), fmt.Sprintf("%+v", want); g != w {
		t.Errorf("%s:\n got %s\nwant %s", what, g, w)
	}
}

func list(l ...any) []any { return l }

func csv(data string) api.File {
	return api.File{Form: api.FormDelimited, Name: "f", Data: data}
}
func wide(data string) api.File { return api.File{Form: api.FormFixed, Name: "f", Data: data} }
func tree(data string) api.File { return api.File{Form: api.FormNested, Name: "f", Data: data} }
func page(rows ...string) api.File {
	f := api.File{Form: api.FormSheet, Name: "f"}
	for _, r := range rows {
		f.Sheet.Rows = append(f.Sheet.Rows, strings.Split(r, "|"))
	}
	return f
}

func fix(kind, table, column int, text string) api.Correction {
	return api.Correction{Kind: kind, Table: table, Column: column, Text: text}
}

// show writes tables shortly.
func show(l []api.Table) string {
	s := ""
	for _, t := range l {
		s += fmt.Sprintf("%d %s", t.ID, t.Name)
		for _, c := range t.Columns {
			s += "|" + c.Name + ":"
			for _, x := range c.Cells {
				if x.Null {
					x.Text = "_"
				}
				s += " " + x.Text
			}
		}
		s += ";"
	}
	return s
}

// trace writes choices shortly.
func trace(l []api.Choice) string {
	s := ""
	for _, c := range l {
		s += fmt.Sprintf("%d.%d.%d %s %v/", c.Kind, c.Table, c.Column, c.Taken, c.Corrected)
	}
	return s
}

func TestP13_1(t *testing.T) {
	big := strings.Repeat("x", api.MaxFile+1)
	broad := api.File{Form: api.FormSheet, Sheet: api.Grid{Rows: make([][]string, 1<<15)}}
	broad.Sheet.Rows[7] = make([]string, 2)
	for i, x := range []struct {
		f  api.File
		ok bool
	}{
		{csv(""), true}, {csv("\xff"), true}, {tree(""), true}, {wide(big[1:]), true}, {page("a"), true}, {api.File{Form: api.FormSheet}, true}, {broad, true}, {api.File{Form: api.FormSheet, Sheet: api.Grid{Rows: make([][]string, 1<<17)}}, true},
		{api.File{}, false}, {api.File{Form: 5}, false}, {api.File{Form: 1, Name: "\xff"}, false}, {api.File{Form: 1, Name: big[:257]}, false}, {api.File{Form: 1, Name: big[:256]}, true}, {csv(big), false},
		{api.File{Form: api.FormSheet, Data: "a"}, false}, {api.File{Form: 1, Sheet: page("a").Sheet}, false}, {page("\xff"), false}, {page(big[:1025]), false}, {page(big[:1024]), true},
	} {
		equal(t, fmt.Sprint(i), ValidFile(x.f), x.ok)
	}
	broad.Sheet.Rows[8] = make([]string, 3)
	equal(t, "places", ValidFile(broad), false)
	l := []api.Correction{fix(1, 2, 3, "a"), fix(1, 2, 3, "b"), fix(1, 2, 4, "c")}
	a, ok := Find(l, 1, 2, 3)
	b, none := Find(l, 1, 3, 3)
	equal(t, "find", list(a, ok, b, none), list("a", true, "", false))
}

func TestP13_2(t *testing.T) {
	for i, x := range []struct {
		f       api.File
		l       []api.Correction
		rows    string
		choices string
	}{
		{csv("a;b\n1,5 kg;x\n"), nil, "[{Rows:[[a b] [1,5 kg x]]}]", "1.0.0 semicolon double plain false/"},
		{csv("a;b"), []api.Correction{fix(1, 0, 0, "comma none trim"), fix(1, 0, 0, "x")}, "[{Rows:[[a;b]]}]", "1.0.0 comma none trim true/"},
		{csv(""), []api.Correction{fix(1, 0, 0, "comma none trim")}, "[{Rows:[]}]", "1.0.0 comma none trim true/"},
		{wide("ab  1\nc  22\n"), nil, "[{Rows:[[ab 1] [c 22]]}]", "2.0.0 0,3 false/"},
		{wide(""), nil, "[{Rows:[]}]", "2.0.0 0 false/"},
		{wide("abc"), []api.Correction{fix(2, 0, 0, "0,1")}, "[{Rows:[[a bc]]}]", "2.0.0 0,1 true/"},
		{page("a||b"), nil, "[{Rows:[[a]]} {Rows:[[b]]}]", "3.0.0 0,0,1,1;0,2,1,3 false/"},
		{page("a||b"), []api.Correction{fix(3, 0, 0, "")}, "[]", "3.0.0  true/"},
	} {
		g, c, e := Grids(x.f, x.l)
		equal(t, fmt.Sprint(i), list(fmt.Sprintf("%+v", g), trace(c), e), list(x.rows, x.choices, 0))
	}
	_, c, _ := Grids(csv("a;b\n1,5;x\nc\n"), nil)
	l := sniff.Candidates("a;b\n1,5;x\nc\n")
	equal(t, "options", list(len(c[0].Options), c[0].Options[0]), list(len(l), api.Option{Text: "semicolon double plain", For: 2, Against: 1}))
	_, c, _ = Grids(page("a||b"), nil)
	equal(t, "regions", c[0].Options, []api.Option{{Text: "0,0,1,1;0,2,1,3", For: 2}})
	for i, x := range []struct {
		f api.File
		l []api.Correction
		e api.Errno
	}{
		{api.File{}, nil, api.ErrInvalid}, {tree("1"), nil, api.ErrState}, {csv(""), nil, api.ErrMissing}, {csv("\xff"), nil, api.ErrMissing}, {csv("\xff"), []api.Correction{fix(1, 0, 0, "x")}, api.ErrFormat}, {csv("a"), []api.Correction{fix(1, 0, 0, "comma")}, api.ErrFormat},
		{csv("\xff"), []api.Correction{fix(1, 0, 0, "comma none plain")}, api.ErrFormat}, {csv("a"), []api.Correction{fix(1, 0, 1, "x")}, api.OK}, {wide("a"), []api.Correction{fix(2, 0, 0, "1")}, api.ErrFormat}, {wide("\xff"), nil, api.ErrFormat}, {wide(strings.Repeat("\n", 4097)), nil, api.ErrLimit},
		{page("a"), []api.Correction{fix(3, 0, 0, "0,0,0,1")}, api.ErrFormat}, {page("a"), []api.Correction{fix(3, 0, 0, "0,0,1,65")}, api.ErrLimit}, {page("a"), []api.Correction{fix(3, 0, 0, "0,0,1,64")}, api.OK},
	} {
		g, c, e := Grids(x.f, x.l)
		equal(t, fmt.Sprint("error ", i), list(e, e == api.OK || g == nil && c == nil), list(x.e, true))
	}
}

func TestP13_3(t *testing.T) {
	for i, x := range []struct {
		f            api.File
		l            []api.Correction
		want, traced string
	}{
		{csv("name;size\nann;007\nbob;8.0\n"), nil, "5 f|name: ann bob|size: 7 8;", "1.0.0 semicolon double plain false/4.0.0 1 false/5.0.0  false/6.0.0  false/7.0.0 text false/5.0.1  false/6.0.1  false/7.0.1 decimal false/"},
		{tree(`[{"a":"1 kg","b":[1,"-"]},{"a":"5 g"}]`), nil, "5 f|a: 1 0.005;6 f.b|row: 0 0|value: 1 _;", "5.0.0  false/6.0.0 kg false/7.0.0 decimal false/5.1.0  false/6.1.0  false/7.1.0 integer false/5.1.1 - false/6.1.1  false/7.1.1 integer false/"},
		{page("a||b", "1||x", "2||"), nil, "5 f 1|a: 1 2;6 f 2|b: x;", ""},
		{csv("a\nNA\nx\n"), []api.Correction{fix(4, 0, 0, "0"), fix(5, 0, 0, "NA|x"), fix(7, 0, 0, "text")}, "5 f|column 1: a _ _;", "1.0.0 comma double plain false/4.0.0 0 true/5.0.0 NA|x true/6.0.0  false/7.0.0 text true/"},
		{page(" "), nil, "", "3.0.0  false/"},
	} {
		r, e := Read(x.f, 5, x.l)
		equal(t, fmt.Sprint(i), list(show(r.Tables), e, table.ValidList(r.Tables)), list(x.want, 0, true))
		if x.traced != "" {
			equal(t, fmt.Sprint(i), trace(r.Choices), x.traced)
		}
	}
	r, e := Read(wide("way   n\n2 km  NA\n300 m 1\n"), 5, []api.Correction{fix(4, 0, 0, "1"), fix(6, 0, 0, "m")})
	equal(t, "units", list(show(r.Tables), e), list("5 f|way: 2000 300|n: _ 1;", 0))
}

func TestP13_3Errors(t *testing.T) {
	one := csv("a;b\n1;2\n")
	for i, x := range []struct {
		f  api.File
		id int
		l  []api.Correction
		e  api.Errno
	}{
		{api.File{}, -1, nil, api.ErrInvalid}, {csv(""), -1, nil, api.ErrMissing}, {one, -1, []api.Correction{fix(4, 0, 0, "01")}, api.ErrFormat}, {one, 0, []api.Correction{fix(4, 0, 0, "4")}, api.ErrFormat}, {one, 0, []api.Correction{fix(4, 0, 0, "")}, api.ErrFormat},
		{one, -1, []api.Correction{fix(4, 0, 0, "3")}, api.ErrRange}, {one, api.MaxID + 1, nil, api.ErrRange}, {one, math.MaxInt, nil, api.ErrRange}, {one, api.MaxID, nil, api.OK}, {one, 0, []api.Correction{fix(4, 0, 0, "3")}, api.ErrRange}, {page("a||b"), api.MaxID, nil, api.ErrRange},
		{page("a||b"), api.MaxID, []api.Correction{fix(7, 0, 0, "?")}, api.ErrFormat}, {one, 0, []api.Correction{fix(5, 0, 1, "|")}, api.ErrFormat}, {one, 0, []api.Correction{fix(6, 0, 1, "km")}, api.ErrFormat}, {one, 0, []api.Correction{fix(6, 0, 1, "m")}, api.ErrFormat}, {one, 0, []api.Correction{fix(6, 0, 1, "")}, api.OK},
		{one, 0, []api.Correction{fix(7, 0, 1, "number")}, api.ErrFormat}, {one, 0, []api.Correction{fix(7, 0, 1, "date")}, api.ErrFormat}, {one, 0, []api.Correction{fix(7, 0, 2, "date")}, api.ErrMissing}, {one, 0, []api.Correction{fix(2, 0, 0, "0")}, api.ErrMissing}, {one, 0, []api.Correction{fix(4, 1, 0, "0")}, api.ErrMissing}, {one, 0, []api.Correction{fix(4, 0, 1, "0")}, api.ErrMissing},
		{one, 0, []api.Correction{fix(7, 0, 0, "text"), fix(7, 0, 0, "?")}, api.OK}, {tree("{"), -1, nil, api.ErrFormat}, {tree("1"), -1, nil, api.ErrRange}, {tree("1"), 0, nil, api.ErrInvalid}, {tree(`{"a":[]}`), api.MaxID, nil, api.ErrLimit}, {tree(`{"a":1}`), 0, []api.Correction{fix(4, 0, 0, "1")}, api.ErrMissing}, {tree("[1]"), 0, nil, api.ErrInvalid},
		{csv(strings.Repeat("x", 1020) + ";a\n" + strings.Repeat("x", 1020) + ";b\n"), 0, []api.Correction{fix(4, 0, 0, "2")}, api.ErrInvalid},
	} {
		r, e := Read(x.f, x.id, x.l)
		equal(t, fmt.Sprint(i), list(e, e == api.OK || Same(r, api.Reading{})), list(x.e, true))
	}
}

func TestP13_4(t *testing.T) {
	c := api.Choice{Kind: 5, Table: 1, Column: 2, Options: []api.Option{{Text: "x"}, {Text: "y"}}}
	l := []api.Correction{fix(5, 1, 2, "a"), fix(5, 1, 3, "b"), fix(5, 1, 2, "c")}
	m, e := Again(l, c, 1)
	equal(t, "again", list(m, e, l[0].Text), list([]api.Correction{fix(5, 1, 3, "b"), fix(5, 1, 2, "y")}, 0, "a"))
	m, e = Again(nil, c, 0)
	equal(t, "first", list(m, e), list([]api.Correction{fix(5, 1, 2, "x")}, 0))
	for _, i := range []int{-1, 2} {
		m, e := Again(l, c, i)
		equal(t, "range", list(m, e), list([]api.Correction{}, api.ErrRange))
	}
	a, _ := Read(csv("a;b\n1;2\n"), 5, nil)
	b, _ := Read(csv("a;b\n1;2\n"), 5, nil)
	equal(t, "same", Same(a, b), true)
	b.Choices[3].Options = append(b.Choices[3].Options, api.Option{})
	equal(t, "options", Same(a, b), false)
	b, _ = Read(csv("a;b\n1;2\n"), 5, []api.Correction{fix(4, 0, 0, "1")})
	equal(t, "corrected", Same(a, b), false)
	b, _ = Read(csv("a;b\n1;3\n"), 5, nil)
	equal(t, "cells", Same(a, b), false)
}

// TestConsequences reads with what was taken before as corrections, and changes one inference after the other.
func TestConsequences(t *testing.T) {
	for _, f := range []api.File{csv("a;b;c\n1 km;NA;2020-01-01\n2 m;7;_\n"), wide("a  b\n1  2\n3  -\n"), tree(`[{"a":true,"b":[{"c":"1 s"},{"c":"none"}]}]`), page("t|", "|", "a|b", "1|x")} {
		r, e := Read(f, 1, nil)
		equal(t, "read", e, api.OK)
		var all []api.Correction
		for _, c := range r.Choices {
			all = append(all, fix(c.Kind, c.Table, c.Column, c.Taken))
		}
		again, e := Read(f, 1, all)
		for i := range again.Choices {
			again.Choices[i].Corrected = false
		}
		equal(t, "the same", list(e, Same(r, again)), list(api.OK, true))
		for i, c := range r.Choices {
			for o := range c.Options {
				l, _ := Again(nil, c, o)
				if other, e := Read(f, 1, l); e == api.OK {
					equal(t, "nothing before", trace(other.Choices[:i]), trace(r.Choices[:i]))
				}
			}
		}
	}
	random := rand.New(rand.NewSource(1))
	for range 200 {
		d := sniff.Dialects()[random.Intn(24)]
		g := api.Grid{Rows: make([][]string, 1+random.Intn(3))}
		for i := range g.Rows {
			for range 1 + random.Intn(3) {
				g.Rows[i] = append(g.Rows[i], []string{"", "a", " b", "c;d", "e,f", "\"", "'"}[random.Intn(7)])
			}
		}
		if s, e := delimited.Format(d, g); e == api.OK {
			name, _ := sniff.Name(d)
			back, _, e := Grids(csv(s), []api.Correction{fix(1, 0, 0, name)})
			equal(t, s, fmt.Sprintf("%q %v", back, e), fmt.Sprintf("%q %v", []api.Grid{g}, 0))
		}
	}
}
