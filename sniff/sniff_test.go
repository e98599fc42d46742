package sniff

import (
	"fmt"
	"math/rand"
	"strings"
	"testing"

	"tablefinder/api"
	"tablefinder/delimited"
)

func equal(t *testing.T, what string, got, want any) {
	t.Helper()
	if g, w := fmt.Sprintf("%+v", got), fmt.Sprintf("%+v", want); g != w {
		t.Errorf("%s:\n got %s\nwant %s", what, g, w)
	}
}

func list(l ...any) []any { return l }

func TestP5_1(t *testing.T) {
	i := 0
	l := Dialects()
	for _, d := range []string{"comma,", "semicolon;", "tab\t", "bar|"} {
		for _, q := range []string{"double\"", "single'", "none\x00"} {
			for _, trim := range []string{"plain", "trim"} {
				want := api.Dialect{Delimiter: d[len(d)-1], Quote: q[len(q)-1], Trim: trim == "trim"}
				name := d[:len(d)-1] + " " + q[:len(q)-1] + " " + trim
				got, ok := Name(want)
				back, found := Named(name)
				equal(t, name, list(l[i], got, ok, back, found), list(want, name, true, want, true))
				i++
			}
		}
	}
	equal(t, "number", len(l), i)
	l[0].Delimiter = 'x'
	equal(t, "no shared memory", Dialects()[0].Delimiter, ',')
	for _, d := range []api.Dialect{{}, {Delimiter: ' '}, {Delimiter: ',', Quote: '`'}} {
		name, ok := Name(d)
		equal(t, "not known", list(name, ok), list("", false))
	}
	for _, s := range []string{"", "comma", "comma double plain ", "Comma double plain", "comma  double plain"} {
		d, ok := Named(s)
		equal(t, s, list(d, ok), list(api.Dialect{}, false))
	}
}

func TestP5_2(t *testing.T) {
	d := api.Dialect{Delimiter: ';', Quote: '"'}
	c, ok := Candidate(d, "a;b\nc\n1;2;3\nd;e\nf\n")
	equal(t, "the greater of equally frequent ones", list(c, ok), list(api.Candidate{Dialect: d, Records: 5, Width: 2, Regular: 2}, true))
	for _, s := range []string{"", `"a`, "\xff", strings.Repeat(";", 64)} {
		c, ok := Candidate(d, s)
		equal(t, "none", list(c, ok), list(api.Candidate{}, false))
	}
	c, ok = Candidate(api.Dialect{}, "a")
	equal(t, "not valid", list(c, ok), list(api.Candidate{}, false))
	c, ok = Candidate(api.Dialect{Delimiter: '-'}, "a-b")
	equal(t, "not known", list(c.Width, ok), list(2, true))
	first, second, other := Dialects()[0], Dialects()[1], api.Dialect{Delimiter: '-'}
	for i, x := range []struct {
		a, b api.Candidate
		want bool
	}{
		{api.Candidate{Regular: 2, Width: 4, Records: 9}, api.Candidate{Regular: 5, Width: 2, Records: 5}, true},
		{api.Candidate{Regular: 2, Width: 4, Records: 2}, api.Candidate{Regular: 6, Width: 2, Records: 7}, true},
		{api.Candidate{Regular: 6, Width: 2, Records: 7}, api.Candidate{Regular: 2, Width: 4, Records: 2}, false},
		{api.Candidate{Dialect: first}, api.Candidate{Dialect: second}, true}, {api.Candidate{Dialect: second}, api.Candidate{Dialect: first}, false}, {api.Candidate{Dialect: first}, api.Candidate{Dialect: first}, false},
		{api.Candidate{Dialect: second}, api.Candidate{Dialect: other}, true}, {api.Candidate{Dialect: other}, api.Candidate{Dialect: second}, false}, {api.Candidate{Dialect: other}, api.Candidate{}, false},
	} {
		equal(t, fmt.Sprint(i), Better(x.a, x.b), x.want)
	}
}

func TestP5_3(t *testing.T) {
	for data, want := range map[string]string{"a;b\n1,5;2\n": "semicolon double plain", "a\n": "comma double plain", "x|'1|2'\ny|z": "bar single plain", "a\t\"b": "tab single plain"} {
		d, e := Guess(data)
		name, _ := Name(d)
		equal(t, data, list(name, e), list(want, api.OK))
		l := Candidates(data)
		for i, c := range l {
			same, ok := Candidate(c.Dialect, data)
			equal(t, "candidate", list(c, ok, i > 0 && Better(c, l[i-1])), list(same, true, false))
		}
	}
	equal(t, "all", len(Candidates("a")), 24)
	equal(t, "some", len(Candidates("\"")), 16)
	for _, data := range []string{"", "\xff", strings.Repeat("a", api.MaxFile+1)} {
		d, e := Guess(data)
		equal(t, "none", list(d, e, len(Candidates(data))), list(api.Dialect{}, api.ErrFormat, 0))
	}
}

func TestConsequence(t *testing.T) {
	r := rand.New(rand.NewSource(1))
	for range 300 {
		d := Dialects()[r.Intn(24)]
		g := api.Grid{Rows: make([][]string, 1+r.Intn(4))}
		width := 2 + r.Intn(3)
		for i := range g.Rows {
			for range width {
				g.Rows[i] = append(g.Rows[i], []string{"", "a", "7", "x-é"}[r.Intn(4)])
			}
		}
		s, _ := delimited.Format(d, g)
		best, _ := Guess(s)
		back, e := delimited.Parse(best, s)
		equal(t, s, list(best.Delimiter, back, e), list(d.Delimiter, g, api.OK))
	}
}

func TestMostFields(t *testing.T) {
	c, ok := Candidate(Dialects()[0], strings.Repeat(",", 63))
	equal(t, "fields", list(c.Width, ok), list(64, true))
}

// answers returns what the functions that look for known dialects say, except Dialects.
func answers() []any {
	d, data := api.Dialect{Delimiter: '|', Trim: true}, "a;b\n1,5;2\n"
	name, ok := Name(d)
	back, found := Named("bar none trim")
	best, e := Guess(data)
	return list(name, ok, back, found, Better(api.Candidate{Dialect: d}, api.Candidate{}), Candidates(data), best, e)
}

// TestKnown empties what has been made at start-up: only Dialects may read it.
func TestKnown(t *testing.T) {
	equal(t, "made at start-up", known, makeKnown())
	l, before := Dialects(), answers()
	defer func(old [24]words) { known = old }(known)
	known = [24]words{}
	equal(t, "the others do not read it", answers(), before)
	equal(t, "Dialects reads it", list(len(l), Dialects()), list(24, make([]api.Dialect, 24)))
}
