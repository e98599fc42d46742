package fixed

import (
	"fmt"
	"math/rand"
	"strings"
	"testing"

	"tablefinder/api"
)

func equal(t *testing.T, what string, got, want any) {
	t.Helper()
	if g, w := fmt.Sprintf("%+q", got), fmt.Sprintf("%+q", want); g != w {
		t.Errorf("%s:\n got %s\nwant %s", what, g, w)
	}
}

func list(l ...any) []any { return l }

func count(n int) []int {
	l := make([]int, n)
	for i := range l {
		l[i] = i
	}
	return l
}

func TestP6_1(t *testing.T) {
	for _, x := range []struct {
		layout []int
		text   string
		ok     bool
	}{
		{[]int{0}, "0", true}, {[]int{0, 3, api.MaxFile}, "0,3,1048576", true}, {nil, "", false}, {[]int{1}, "", false}, {[]int{0, 3, 3}, "", false}, {[]int{0, api.MaxFile + 1}, "", false}, {[]int{0, -1}, "", false}, {count(65), "", false},
	} {
		s, ok := Text(x.layout)
		equal(t, fmt.Sprint(x.layout), list(Valid(x.layout), s, ok), list(x.ok, x.text, x.ok))
		if x.ok {
			l, ok := Layout(s)
			equal(t, s, list(l, ok), list(x.layout, true))
		}
	}
	for _, s := range []string{"", "1", "0,", "0,03", "+0", "0, 3", "0,3,2", "0,1048577", "0,99999999999999999999", "-0", "0,x", "00", strings.Repeat("0,", 70)} {
		l, ok := Layout(s)
		equal(t, s, list(l, ok), list([]int{}, false))
	}
	equal(t, "most", Valid(count(64)), true)
}

func TestP6_2(t *testing.T) {
	g, e := Parse([]int{0, 3, 5}, "ab  1\né ü 22 x \n\n   \"\r\nabc")
	equal(t, "parse", list(g.Rows, e), list([][]string{{"ab", "1", ""}, {"é ü", "2", "2 x"}, {"", "", ""}, {"", "\"", ""}, {"abc", "", ""}}, api.OK))
	big := strings.Repeat("a", api.MaxFile+1)
	for i, x := range []struct {
		layout []int
		data   string
		e      api.Errno
	}{
		{nil, big, api.ErrInvalid}, {[]int{0}, big[1:] + "\xff", api.ErrLimit}, {[]int{0}, "\xff" + strings.Repeat("\n", 4097), api.ErrFormat}, {[]int{0}, strings.Repeat("\n", 4097), api.ErrLimit},
		{[]int{0}, strings.Repeat("\n", 4096), api.OK}, {[]int{0, 1}, big[:1026], api.ErrLimit}, {[]int{0, 1}, big[:1025], api.OK}, {[]int{0}, " " + big[:1024] + " ", api.OK}, {[]int{0}, "", api.OK},
	} {
		g, e := Parse(x.layout, x.data)
		equal(t, fmt.Sprint(i), list(e, e == api.OK || len(g.Rows) == 0), list(x.e, true))
	}
}

func TestP6_3(t *testing.T) {
	s, e := Format([]int{0, 3, 5}, api.Grid{Rows: [][]string{{"éab", "1", ""}, {"", "", "x y"}, {"", "", ""}, {"a", "", ""}}})
	equal(t, "format", list(s, e), list("éab1\n     x y\n\na\n", api.OK))
	long := strings.Repeat("a", 1025)
	for i, x := range []struct {
		layout []int
		rows   [][]string
		e      api.Errno
	}{
		{[]int{1}, nil, api.ErrInvalid}, {[]int{0}, nil, api.OK}, {[]int{0, 2}, [][]string{{long, "b"}, {"a"}}, api.ErrInvalid}, {[]int{0}, [][]string{{" "}, {"\xff"}}, api.ErrInvalid},
		{[]int{0}, [][]string{{" "}, {long}}, api.ErrLimit}, {[]int{0}, make([][]string, 4097), api.ErrInvalid}, {[]int{0}, append(make([][]string, 0), strings.Split(strings.Repeat("x", 1), ",")), api.OK},
		{[]int{0}, [][]string{{"a "}}, api.ErrFormat}, {[]int{0}, [][]string{{" a"}}, api.ErrFormat}, {[]int{0}, [][]string{{"a\rb"}}, api.ErrFormat}, {[]int{0}, [][]string{{"a\n"}}, api.ErrFormat},
		{[]int{0, 2}, [][]string{{"abc", ""}}, api.ErrFormat}, {[]int{0, 2}, [][]string{{"éé", "abc"}}, api.OK}, {[]int{0, api.MaxFile - 2}, [][]string{{"", "a"}}, api.OK},
		{[]int{0, api.MaxFile - 2}, [][]string{{"", "ab"}}, api.ErrLimit}, {[]int{0, api.MaxFile}, [][]string{{"", "a"}, {"", "b"}, {"", "c"}}, api.ErrLimit},
	} {
		s, e := Format(x.layout, api.Grid{Rows: x.rows})
		equal(t, fmt.Sprint(i), list(e, e == api.OK || s == ""), list(x.e, true))
	}
	many := make([][]string, 4097)
	for i := range many {
		many[i] = []string{""}
	}
	_, e = Format([]int{0}, api.Grid{Rows: many})
	_, f := Format([]int{0}, api.Grid{Rows: many[1:]})
	equal(t, "rows", list(e, f), list(api.ErrLimit, api.OK))
}

func TestP6_4(t *testing.T) {
	for _, x := range []struct {
		data string
		gap  int
		want []int
	}{
		{"ab  1\nc  22\n", 1, []int{0, 3}}, {"ab  1\nc  22\n", 2, []int{0}}, {"\n", 1, []int{0}}, {"  a  b   c", 1, []int{0, 5, 9}}, {"  a  b   c", 2, []int{0, 5, 9}}, {"  a  b   c", 3, []int{0, 9}}, {"  a  b   c", 4, []int{0}},
		{"éé x\na", 1, []int{0, 3}}, {"a \nb c", 1, []int{0, 2}}, {"a  ", 1, []int{0}}, {"", 1, nil}, {"a", 0, nil}, {"a", -1, nil}, {"\xff", 1, nil}, {strings.Repeat("a", api.MaxFile+1), 1, nil}, {strings.Repeat("a ", 65), 1, nil}, {"a\tb", 1, []int{0}},
	} {
		l, ok := Infer(x.data, x.gap)
		equal(t, fmt.Sprintf("%.20q %d", x.data, x.gap), list(l, ok), list(x.want, x.want != nil))
	}
	l, ok := Infer(strings.Repeat("a ", 64), 1)
	equal(t, "64 columns", list(len(l), ok), list(64, true))
}

func TestP6_5(t *testing.T) {
	equal(t, "options", Options("a b  c   d\ne f  g   \nh        i\n"), []api.Option{{Text: "0,9", For: 2, Against: 1}, {Text: "0,2,5,9", For: 1, Against: 2}, {Text: "0,5,9", For: 1, Against: 2}})
	equal(t, "one", Options("ab\n\n"), []api.Option{{Text: "0", For: 1, Against: 1}})
	equal(t, "gaps", Options(strings.Repeat("a ", 65)+"  b"), []api.Option{{Text: "0,132", For: 1}})
	equal(t, "long fields", Options(strings.Repeat("a", 2000)), []api.Option{{Text: "0", For: 1}})
	equal(t, "none", list(Options(""), Options("\xff")), list([]api.Option{}, []api.Option{}))
}

func TestConsequences(t *testing.T) {
	r := rand.New(rand.NewSource(1))
	for range 1000 {
		layout := []int{0, 1 + r.Intn(3), 5}
		g := api.Grid{Rows: make([][]string, r.Intn(4))}
		for i := range g.Rows {
			for range layout {
				g.Rows[i] = append(g.Rows[i], []string{"", "a", "éü", "a b", "\t"}[r.Intn(5)])
			}
		}
		s, e := Format(layout, g)
		if e == api.OK {
			back, e := Parse(layout, s)
			equal(t, s, list(back, e), list(g, api.OK))
		}
		last := 65
		for gap := 1; gap < 5; gap++ {
			if l, ok := Infer(s, gap); ok {
				equal(t, "gap", len(l) <= last, true)
				last = len(l)
			}
		}
	}
}

func TestMost(t *testing.T) {
	long := strings.Repeat("a", api.MaxText)
	data := strings.Repeat(long[1:]+"\n", 1024)
	g, e := Parse([]int{0}, data)
	l, ok := Infer(data, 1)
	s, f := Format([]int{0}, api.Grid{Rows: [][]string{{long}}})
	equal(t, "bytes", list(len(data), len(g.Rows), e, l, ok, s, f), list(api.MaxFile, 1024, api.OK, []int{0}, true, long+"\n", api.OK))
	wide, f := Format([]int{0, api.MaxFile}, api.Grid{Rows: [][]string{{long, "b"}, {long, "b"}}})
	equal(t, "places", list(wide, f), list("", api.ErrLimit))
}
