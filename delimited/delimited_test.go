package delimited

import (
	"fmt"
	"math/rand"
	"strings"
	"testing"

	"tablefinder/api"
)

func equal(t *testing.T, what string, got, want any) {
	t.Helper()
	if g, w := fmt.Sprintf("%q", got), fmt.Sprintf("%q", want); g != w {
		t.Errorf("%s:\n got %s\nwant %s", what, g, w)
	}
}

func list(l ...any) []any { return l }

var (
	plainComma = api.Dialect{Delimiter: ',', Quote: '"'}
	trimBar    = api.Dialect{Delimiter: '|', Quote: '\'', Trim: true}
	bare       = api.Dialect{Delimiter: '\t'}
)

func TestP4_1Valid(t *testing.T) {
	for c := range 256 {
		ok := c == 9 || c >= 32 && c <= 126
		b := byte(c)
		equal(t, fmt.Sprint(c), list(Valid(api.Dialect{Delimiter: b}), Valid(api.Dialect{Delimiter: b, Quote: '"'}), Valid(api.Dialect{Delimiter: b, Trim: true}), Valid(api.Dialect{Delimiter: ',', Quote: b})),
			list(ok, ok && c != '"', ok && c != ' ', c == 0 || c == '"' || c == '\''))
	}
}

func TestP4_1(t *testing.T) {
	for _, x := range []struct {
		d    api.Dialect
		data string
		want [][]string
	}{
		{plainComma, `a,"b,""c""",`, [][]string{{"a", `b,"c"`, ""}}},
		{plainComma, "", nil},
		{plainComma, "\n", [][]string{{""}}},
		{plainComma, "a\r\nb\rc\n\r", [][]string{{"a"}, {"b\rc"}, {"\r"}}},
		{plainComma, "\"x\r\ny\"\n\"\"", [][]string{{"x\r\ny"}, {""}}},
		{plainComma, ` a , b"c `, [][]string{{" a ", ` b"c `}}},
		{plainComma, ` "a"`, [][]string{{` "a"`}}},
		{plainComma, `""""`, [][]string{{`"`}}},
		{trimBar, "  a b | 'c ' |  | 'd''|'\r\n", [][]string{{"a b", "c ", "", "d'|"}}},
		{trimBar, "a'b|'x'  \n \t'", [][]string{{"a'b", "x"}, {"\t'"}}},
		{trimBar, "   ", [][]string{{""}}},
		{bare, "\"a\t'b'\t\n\t", [][]string{{`"a`, "'b'", ""}, {"", ""}}},
		{api.Dialect{Delimiter: ' '}, "a  b", [][]string{{"a", "", "b"}}},
	} {
		g, e := Parse(x.d, x.data)
		equal(t, fmt.Sprintf("%q", x.data), list(g.Rows, e), list(x.want, api.OK))
	}
}

func TestP4_1Errors(t *testing.T) {
	big := strings.Repeat("a", api.MaxFile+1)
	many := strings.Repeat("\n", api.MaxRows+1)
	for i, x := range []struct {
		d    api.Dialect
		data string
		e    api.Errno
	}{
		{api.Dialect{}, big, api.ErrInvalid}, {plainComma, big + "\xff", api.ErrLimit}, {plainComma, "\xff", api.ErrFormat},
		{plainComma, `"a`, api.ErrFormat}, {plainComma, `"a"b`, api.ErrFormat}, {plainComma, `"a" ,b`, api.ErrFormat}, {plainComma, "\"a\"\r", api.ErrFormat}, {trimBar, "'a' \t", api.ErrFormat},
		{plainComma, many + `"`, api.ErrFormat}, {plainComma, many, api.ErrLimit}, {plainComma, many[1:], api.OK},
		{plainComma, strings.Repeat(",", 64), api.ErrLimit}, {plainComma, strings.Repeat(",", 63), api.OK}, {plainComma, big[:1025], api.ErrLimit}, {plainComma, big[:1024], api.OK},
	} {
		g, e := Parse(x.d, x.data)
		equal(t, fmt.Sprint(i), list(e, e == api.OK || len(g.Rows) == 0), list(x.e, true))
	}
}

func TestP4_2(t *testing.T) {
	for _, x := range []struct {
		d     api.Dialect
		field string
		want  bool
	}{
		{plainComma, "", true}, {plainComma, `a"b`, true}, {plainComma, `"a`, false}, {plainComma, "a,b", false}, {plainComma, "a\n", false}, {plainComma, "a\rb", false}, {plainComma, "\xff", false},
		{plainComma, " a ", true}, {trimBar, " a", false}, {trimBar, "a ", false}, {trimBar, "\ta", true}, {bare, `"a`, true}, {bare, "\x00", true}, {api.Dialect{}, "a", false},
	} {
		equal(t, x.field, Fits(x.d, x.field), x.want)
	}
	s, e := Format(trimBar, api.Grid{Rows: [][]string{{"a", " b", ""}, {"'c'", "d|'"}}})
	equal(t, "format", list(s, e), list("a|' b'|\n'''c'''|'d|'''\n", api.OK))
	long := strings.Repeat("a", 1025)
	full := make([][]string, 1024)
	for i := range full {
		full[i] = []string{long[2:]} // with the line feed, 1024 bytes each
	}
	for i, x := range []struct {
		d    api.Dialect
		rows [][]string
		e    api.Errno
	}{
		{api.Dialect{Quote: 1}, nil, api.ErrInvalid}, {bare, nil, api.OK}, {bare, [][]string{{"\n"}, {}}, api.ErrInvalid}, {bare, [][]string{{long, "\xff"}}, api.ErrInvalid},
		{bare, [][]string{{"\n", long}}, api.ErrLimit}, {bare, make([][]string, 4097), api.ErrInvalid}, {bare, [][]string{make([]string, 65)}, api.ErrLimit},
		{bare, [][]string{make([]string, 64), {long[1:]}}, api.OK}, {bare, [][]string{{"a\tb"}}, api.ErrFormat}, {plainComma, [][]string{{"a\tb\n"}}, api.OK},
		{bare, full, api.OK}, {bare, append(full, []string{""}), api.ErrLimit}, {bare, append(full, []string{"\r"}), api.ErrFormat},
	} {
		s, e := Format(x.d, api.Grid{Rows: x.rows})
		equal(t, fmt.Sprint(i), list(e, e == api.OK || s == ""), list(x.e, true))
	}
}

func TestParseOfFormat(t *testing.T) {
	r := rand.New(rand.NewSource(1))
	for range 3000 {
		d := api.Dialect{Delimiter: []byte(",;\t| a'")[r.Intn(7)], Quote: []byte{0, '"', '\''}[r.Intn(3)], Trim: r.Intn(2) == 0}
		g := api.Grid{Rows: make([][]string, r.Intn(4))}
		for i := range g.Rows {
			for range 1 + r.Intn(3) {
				field := ""
				for range r.Intn(4) {
					field += []string{"a", " ", ",", "'", "\"", "\r", "\n", "é", "|"}[r.Intn(9)]
				}
				g.Rows[i] = append(g.Rows[i], field)
			}
		}
		if s, e := Format(d, g); e == api.OK {
			back, e := Parse(d, s)
			equal(t, fmt.Sprintf("%v %q", d, s), list(back, e), list(g, api.OK))
		}
	}
}

func TestMost(t *testing.T) {
	data := strings.Repeat(strings.Repeat("a", 1023)+"\n", 1024)
	g, e := Parse(plainComma, data)
	equal(t, "bytes", list(len(data), len(g.Rows), e), list(api.MaxFile, 1024, api.OK))
}
