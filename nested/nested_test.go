package nested

import (
	"fmt"
	"math"
	"math/rand"
	"reflect"
	"strings"
	"testing"

	"tablefinder/api"
	"tablefinder/table"
)

func equal(t *testing.T, what string, got, want any) {
	t.Helper()
	if g, w := fmt.Sprintf("%+v", got), fmt.Sprintf("%+v", want); g != w {
		t.Errorf("%s:\n got %s\nwant %s", what, g, w)
	}
}

func list(l ...any) []any { return l }

func word(s string) api.Node { return api.Node{Kind: api.NestText, Text: s} }
func num(s string) api.Node  { return api.Node{Kind: api.NestNumber, Text: s} }
func nodes(l ...api.Node) api.Node {
	return api.Node{Kind: api.NestList, Kids: l}
}

func deep(n int) api.Node {
	a := nodes()
	for range n - 1 {
		a = nodes(a)
	}
	return a
}

func parsed(s string) api.Node {
	n, e := Parse(s)
	if e != api.OK {
		panic(s)
	}
	return n
}

var long = strings.Repeat("x", api.MaxText)

func TestP7_1Valid(t *testing.T) {
	record := func(keys ...string) api.Node {
		return api.Node{Kind: api.NestRecord, Keys: keys, Kids: []api.Node{word("a"), word("b")}}
	}
	for i, n := range []api.Node{{Kind: api.NestNull}, {Kind: api.NestBool, Text: "false"}, num("-1.50"), word(long), word("\t\n\r\x7f"), deep(16), record("a", ""), {Kind: api.NestRecord}} {
		s, e := Format(n)
		back, f := Parse(s)
		equal(t, fmt.Sprint("valid ", i), list(Valid(n), e, f, Same(n, back)), list(true, 0, 0, true))
	}
	loop := []api.Node{{Kind: api.NestList}}
	loop[0].Kids = loop
	for i, n := range []api.Node{{}, {Kind: 7}, {Kind: api.NestNull, Text: "x"}, {Kind: api.NestBool, Text: "True"}, {Kind: api.NestBool}, num("1."), num("1234567890123456"), word(long + "x"), word("\xff"), word("\x01"), deep(17), record("a"), record("a", "a"), record("a", "\x00"), record("a", long+"x"),
		{Kind: api.NestText, Keys: []string{"a"}}, {Kind: api.NestText, Kids: []api.Node{word("")}}, {Kind: api.NestList, Text: "x"}, {Kind: api.NestRecord, Text: "x"}, {Kind: api.NestList, Kids: []api.Node{word("")}, Keys: []string{""}}, nodes(word("\x01")), loop[0]} {
		s, e := Format(n)
		l, f := Flatten("", 0, n)
		equal(t, fmt.Sprint("invalid ", i), list(Valid(n), s, e, l, f), list(false, "", 1, []api.Table{}, 1))
	}
}

func TestP7_1Parse(t *testing.T) {
	for s, want := range map[string]string{
		" [ ] ": "[]", "{}": "{}", "\t{ \"a\" :\r\n[1 ,-2.50, +3]}\n": `{"a":[1,-2.50,+3]}`, `"\\\"\n\r\t/é"`: `"\\\"\n\r\t/é"`, "null": "null", "true": "true", `[[],[{"":false}]]`: `[[],[{"":false}]]`, "[007]": "[007]",
	} {
		n, e := Parse(s)
		back, f := Format(n)
		equal(t, s, list(back, e, f), list(want, 0, 0))
	}
	for _, s := range []string{"", " ", "[", "]", "[1,]", "[,1]", "[1 2]", "[1}", "{1:2}", `{"a"}`, `{"a":}`, `{"a":1,}`, `{a:1}`, `"a`, `"\u0041"`, `"\x"`, "\"\n\"", `"\`, "nul", "True", "nullx", "1x", "1.", ".5", "-", "1e5", "[]]", "[] []", "'a'", "\xff", "[1]\x00", "[truefalse]", `{"a":1 "b":2}`, strings.Repeat("[", 1<<20), strings.Repeat(`{"":`, 1<<18)} {
		n, e := Parse(s)
		equal(t, fmt.Sprintf("%.20q", s), list(n, e), list(api.Node{}, api.ErrFormat))
	}
	for _, s := range []string{strings.Repeat("[", 17) + strings.Repeat("]", 17), `{"a":1,"a":2}`, "1234567890123456", "1.1234567890", `"` + long + `x"`, `{"` + long + `x":1}`, strings.Repeat("[", 1<<19) + strings.Repeat("]", 1<<19)} {
		n, e := Parse(s)
		equal(t, fmt.Sprintf("%.20q", s), list(n, e), list(api.Node{}, api.ErrInvalid))
	}
	_, e := Parse("\xff" + strings.Repeat(" ", api.MaxFile))
	_, f := Parse("1" + strings.Repeat(" ", api.MaxFile-1))
	equal(t, "limit", list(e, f), list(api.ErrLimit, api.OK))
	many := nodes()
	for range 1 << 10 {
		many.Kids = append(many.Kids, word(long))
	}
	s, e := Format(many)
	equal(t, "format", list(s, e), list("", api.ErrLimit))
}

func TestP7_1Same(t *testing.T) {
	a := parsed(`{"a":[1,null],"b":"x"}`)
	for _, s := range []string{`{"a":[1,null],"b":"y"}`, `{"a":[1],"b":"x"}`, `{"b":[1,null],"a":"x"}`, `{"a":[1,"null"],"b":"x"}`, `{"a":[1,null]}`} {
		equal(t, s, Same(a, parsed(s)), false)
	}
	x := deep(200000)
	equal(t, "same", list(Same(a, parsed(`{"a":[1,null],"b":"x"}`)), Same(api.Node{Kids: []api.Node{}}, api.Node{}), Same(x, x), Same(x, deep(199999))), list(true, true, true, false))
}

// show writes tables shortly.
func show(l []api.Table) string {
	s := ""
	for _, t := range l {
		s += fmt.Sprintf("%d %s", t.ID, t.Name)
		for _, c := range t.Columns {
			s += "|" + c.Name + ":"
			for _, x := range c.Cells {
				if x.Null {
					x.Text = "_"
				}
				s += " " + x.Text
			}
		}
		s += "\n"
	}
	return s
}

func TestP7_2(t *testing.T) {
	for _, x := range []struct{ data, want string }{
		{`[{"a":1,"b":[2,3]},{"a":4}]`, "5 n|a: 1 4\n6 n.b|row: 0 0|value: 2 3\n"},
		{`{"a":null,"b":true,"c":{"d":"x","e":{}}}`, "5 n|a: _|b: true|c.d: x\n"},
		{`[]`, "5 n\n"}, {`[{},{}]`, "5 n\n"}, {`{"a":[]}`, "5 n\n6 n.a|row:\n"},
		{`[{"b":1},{"a":2,"b":3}]`, "5 n|b: 1 3|a: _ 2\n"},
		{`[{"a.b":1,"a":{"b":2}},{"a":{"b":3},"a.b":4},{"a":{"b":null},"a.b":5}]`, "5 n|a.b: 1 3 _\n"},
		{`[{"a.b":[1],"a":{"b":[2,3]}}]`, "5 n\n6 n.a.b|row: 0|value: 1\n"},
		{`[{"a":1},{"a":[2]}]`, "5 n|a: 1 _\n6 n.a|row: 1|value: 2\n"},
		{`[{"a":[{"x":1},2,null,[3]]},{"a":[]},{"a":[true]}]`, "5 n\n6 n.a|row: 0 0 0 0 2|value: _ 2 _ _ true\n"},
		{`[{"a":[{"x":1,"y":[{"z":7}]}],"b":["q"]},{"a":[{"y":[{"z":8},{}]},{"x":{"w":9}}]}]`, "5 n\n6 n.a|row: 0 1 1|x: 1 _ _|x.w: _ _ 9\n7 n.a.y|row: 0 1 1|z: 7 8 _\n8 n.b|row: 0|value: q\n"},
		{`{"a":[{"row":1}]}`, "5 n\n6 n.a|row: 0|row: 1\n"},
		{`{"c":{"l":[1]}}`, "5 n\n6 n.c.l|row: 0|value: 1\n"},
	} {
		l, e := Flatten("n", 5, parsed(x.data))
		equal(t, x.data, list(show(l), e), list(x.want, api.OK))
	}
}

func TestP7_2Errors(t *testing.T) {
	one := parsed(`{"a":[1]}`)
	wide, tall, tables := `{"0":1`, `[{}`, `{"0":[]`
	for i := range 64 {
		wide += fmt.Sprintf(`,"%d":1`, i+1)
	}
	tall += strings.Repeat(",{}", 4096)
	for i := range 1023 {
		tables += fmt.Sprintf(`,"%d":[]`, i+1)
	}
	for i, x := range []struct {
		name string
		id   int
		n    api.Node
		e    api.Errno
	}{
		{"\xff", -1, one, api.ErrInvalid}, {"", -1, num("1"), api.ErrInvalid}, {"", -1, parsed("[{},1]"), api.ErrInvalid}, {"", 0, api.Node{}, api.ErrInvalid},
		{"", -1, one, api.ErrLimit}, {"", api.MaxID, one, api.ErrLimit}, {"", api.MaxID - 1, one, api.OK}, {"", math.MaxInt, one, api.ErrLimit}, {"", math.MinInt, one, api.ErrLimit},
		{long + "x", 0, one, api.ErrLimit}, {long, 0, one, api.ErrLimit}, {long[2:], 0, one, api.OK},
		{"", 0, parsed(wide + "}"), api.ErrLimit}, {"", 0, parsed(tall + "]"), api.ErrLimit}, {"", 0, parsed(`{"a":` + tall + "]}"), api.ErrLimit}, {"", 0, parsed(`{"a":[1` + strings.Repeat(",1", 4096) + "]}"), api.ErrLimit},
		{"", 0, parsed(tables + "}"), api.ErrLimit},
	} {
		l, e := Flatten(x.name, x.id, x.n)
		equal(t, fmt.Sprint(i), list(e, e == api.OK || l == nil), list(x.e, true))
	}
}

func TestConsequences(t *testing.T) {
	r := rand.New(rand.NewSource(1))
	var random func(depth int) api.Node
	random = func(depth int) api.Node {
		n := api.Node{Kind: 1 + r.Intn(6)}
		if depth == 0 {
			n.Kind = 1 + r.Intn(4)
		}
		switch n.Kind {
		case api.NestBool:
			n.Text = "true"
		case api.NestNumber:
			n.Text = "7"
		case api.NestText:
			n.Text = []string{"", "\\", "\"\n", "é\t\r"}[r.Intn(4)]
		case api.NestList, api.NestRecord:
			for i := range r.Intn(4) {
				n.Kids = append(n.Kids, random(depth-1))
				if n.Kind == api.NestRecord {
					n.Keys = append(n.Keys, []string{"a", "b.c", "b", "c"}[i])
				}
			}
		}
		return n
	}
	for range 3000 {
		n := random(4)
		s, e := Format(n)
		back, f := Parse(s)
		equal(t, s, list(back, e, f, Same(n, back)), list(n, 0, 0, true))
		if l, e := Flatten("x", 0, n); e == api.OK {
			equal(t, s, table.ValidList(l), true)
			equal(t, "argument", reflect.DeepEqual(n, back) || Same(n, back), true)
		}
	}
}

func TestMost(t *testing.T) {
	n, e := Parse(`"a b"`)
	equal(t, "space", list(n, Valid(n), e), list(word("a b"), true, 0))
	for _, s := range []string{"{1}", `{"a":1,2}`, "\"a\x01", "[1,\"a\x1f\"]"} {
		_, e := Parse(s)
		equal(t, s, e, api.ErrFormat)
	}
	rows := "1" + strings.Repeat(",2", api.MaxRows-1)
	records := "{}" + strings.Repeat(",{}", api.MaxRows-1)
	columns := `"0":1`
	for i := range 63 {
		columns += fmt.Sprintf(`,"%d":1`, i+1)
	}
	for _, s := range []string{`{"a":[` + rows + "]}", "[" + records + "]", `{"a":[` + records + "]}", "{" + columns + "}"} {
		l, e := Flatten("", 0, parsed(s))
		equal(t, s[:9], list(table.ValidList(l), e), list(true, 0))
	}
	l, e := Flatten("", api.MaxID, parsed(`{"a":1}`))
	equal(t, "ID", list(len(l), e), list(1, 0))
	many := nodes()
	for range 1023 {
		many.Kids = append(many.Kids, word(long[:1021]))
	}
	last := api.MaxFile - 2 - 1023*1024 - 2
	many.Kids = append(many.Kids, word(long[:last]))
	s, e := Format(many)
	equal(t, "bytes", list(len(s), e), list(api.MaxFile, 0))
	many.Kids[1023].Text += "x"
	_, e = Format(many)
	equal(t, "one more", e, api.ErrLimit)
}
