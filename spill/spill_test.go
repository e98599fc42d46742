package spill

import (
	"fmt"
	"math/bits"
	"math/rand"
	"reflect"
	"slices"
	"strconv"
	"testing"

	"tablefinder/api"
)

func equal(t *testing.T, what string, got, want any) {
	t.Helper()
	if g, w := fmt.Sprintf("%+v", got), fmt.Sprintf("%+v", want); g != w {
		t.Errorf("%s:\n got %s\nwant %s", what, g, w)
	}
}

func list(l ...any) []any { return l }

// run makes a list of counts of texts of one letter and their numbers.
func run(l ...string) []api.Count {
	var r []api.Count
	for _, s := range l {
		n, _ := strconv.Atoi(s[1:])
		r = append(r, api.Count{Text: s[:1], Count: n})
	}
	return r
}

func pushed(memory int, texts string) api.Spill {
	s, _ := New(memory)
	for _, c := range texts {
		s, _ = Push(s, string(c))
	}
	return s
}

func invalid() []api.Spill {
	return []api.Spill{{}, {Memory: 1}, {Memory: api.MaxMemory + 1}, {Memory: 2, Buffer: run("a1", "b1", "c1"), Peak: 2}, {Memory: 2, Buffer: run("b1", "a1"), Peak: 2}, {Memory: 2, Buffer: run("a0"), Peak: 2}, {Memory: 2, Buffer: run("a1")},
		{Memory: 2, Peak: 3}, {Memory: 2, Peak: -1}, {Memory: 2, Written: -1}, {Memory: 2, Runs: [][]api.Count{nil}}, {Memory: 2, Runs: [][]api.Count{run("a1", "a1")}}, {Memory: 2, Runs: [][]api.Count{run("a-1")}}}
}

func TestP15_1(t *testing.T) {
	for _, n := range []int{1, 0, -5, api.MaxMemory + 1} {
		s, e := New(n)
		equal(t, fmt.Sprint(n), list(s, e), list(api.Spill{}, api.ErrRange))
	}
	s, e := New(api.MaxMemory)
	equal(t, "new", list(s, e, Valid(s)), list(api.Spill{Memory: api.MaxMemory}, 0, true))
	equal(t, "valid", list(Valid(api.Spill{Memory: 2, Buffer: run("a1", "b2"), Peak: 2, Runs: [][]api.Count{run("a1", "b1", "c1")}, Written: 3}), Valid(api.Spill{Memory: 2})), list(true, true))
	for i, s := range invalid() {
		a, e := Push(s, "a")
		b, f := Flush(s)
		c, g := Merge(s)
		l, d, h := Finish(s)
		equal(t, fmt.Sprint(i), list(Valid(s), a, e, b, f, c, g, l, d, h), list(false, api.Spill{}, 1, api.Spill{}, 1, api.Spill{}, 1, run(), api.Spill{}, 1))
	}
}

func TestP15_2(t *testing.T) {
	equal(t, "example", pushed(2, "babca"), api.Spill{Memory: 2, Buffer: run("a1", "c1"), Runs: [][]api.Count{run("a1", "b2")}, Peak: 2, Written: 2})
	equal(t, "places", pushed(9, "cabbd"), api.Spill{Memory: 9, Buffer: run("a1", "b2", "c1", "d1"), Peak: 4})
	s := pushed(2, "ab")
	f, e := Flush(s)
	equal(t, "flush", list(f, e), list(api.Spill{Memory: 2, Runs: [][]api.Count{run("a1", "b1")}, Peak: 2, Written: 2}, 0))
	f.Runs[0][0].Count = 9
	g, _ := Flush(api.Spill{Memory: 2, Peak: 1})
	equal(t, "empty", g, api.Spill{Memory: 2, Peak: 1})
	Push(s, "c")
	Push(s, "a")
	if !reflect.DeepEqual(s.Buffer, run("a1", "b1")) {
		t.Error("the argument was changed")
	}
}

func TestP15_3(t *testing.T) {
	s := api.Spill{Memory: 2, Buffer: run("z1"), Peak: 1, Runs: [][]api.Count{run("a1", "c2"), run("a3", "b1", "d1"), run("x1")}, Written: 6}
	m, e := Merge(s)
	equal(t, "merge", list(m, e), list(api.Spill{Memory: 2, Buffer: run("z1"), Peak: 2, Runs: [][]api.Count{run("x1"), run("a4", "b1", "c2", "d1")}, Written: 10}, 0))
	m.Runs[0][0].Count = 7
	equal(t, "argument", s.Runs, [][]api.Count{run("a1", "c2"), run("a3", "b1", "d1"), run("x1")})
	for _, runs := range [][][]api.Count{nil, {run("a1")}} {
		m, e := Merge(api.Spill{Memory: 2, Runs: runs})
		equal(t, "state", list(m, e), list(api.Spill{}, api.ErrState))
	}
}

func TestP15_4(t *testing.T) {
	l, s, e := Finish(pushed(2, "babca"))
	equal(t, "example", list(l, s, e), list(run("a2", "b2", "c1"), api.Spill{Memory: 2, Runs: [][]api.Count{run("a2", "b2", "c1")}, Peak: 2, Written: 7}, 0))
	l[0].Count = 9
	equal(t, "no shared memory", s.Runs[0][0].Count, 2)
	l, s, e = Finish(api.Spill{Memory: 3})
	equal(t, "nothing", list(l, s, e), list(run(), api.Spill{Memory: 3}, 0))
	sorted, s, e := Sort([]string{"b", "a", "b", "c", "a"}, 2)
	equal(t, "sort", list(sorted, s, e), list([]string{"a", "a", "b", "b", "c"}, api.Spill{Memory: 2, Runs: [][]api.Count{run("a2", "b2", "c1")}, Peak: 2, Written: 7}, 0))
	many := make([]string, 1<<20+1)
	sorted, s, e = Sort(many, 1)
	equal(t, "range", list(sorted, s, e), list(run(), api.Spill{}, api.ErrRange))
	sorted, s, e = Sort(many, 2)
	equal(t, "limit", list(sorted, s, e), list(run(), api.Spill{}, api.ErrLimit))
	for i := range many {
		many[i] = strconv.Itoa(i * 7919 % (1<<20 + 7))
	}
	for _, memory := range []int{2, api.MaxMemory} {
		sorted, s, e = Sort(many[1:], memory)
		equal(t, "many", list(len(sorted), slices.IsSorted(sorted), Valid(s), s.Peak, e), list(1<<20, true, true, memory, 0))
	}
}

func TestP15_5(t *testing.T) {
	for _, x := range []struct {
		different []int
		memory    int
		want      int
	}{{[]int{5, 4, 1, 0, -3}, 2, 6}, {nil, 2, 0}, {[]int{5}, 1, 0}, {[]int{5}, api.MaxMemory + 1, 0}, {[]int{5}, api.MaxMemory, 1}, {[]int{1<<63 - 1}, 2, 1 << 62}} {
		equal(t, fmt.Sprint(x), Runs(x.different, x.memory), x.want)
	}
	r := rand.New(rand.NewSource(1))
	for range 200 {
		memory := 2 + r.Intn(4)
		s, _ := New(memory)
		different := []int{r.Intn(9), r.Intn(9), r.Intn(9)}
		n, all := 0, 0
		for _, d := range different {
			for range d {
				s, _ = Push(s, strconv.Itoa(all))
				all++
			}
			s, _ = Flush(s)
		}
		n = len(s.Runs)
		equal(t, "runs", Runs(different, memory), n)
		written := s.Written
		_, s, _ = Finish(s)
		equal(t, "written", s.Written-written <= all*bits.Len(uint(n)) && s.Peak <= memory, true)
	}
}

// TestConsequences counts with different memories, and with Flush and Merge in between.
func TestConsequences(t *testing.T) {
	r := rand.New(rand.NewSource(1))
	for range 300 {
		texts := make([]string, r.Intn(30))
		for i := range texts {
			texts[i] = strconv.Itoa(r.Intn(12))
		}
		want, _, _ := Sort(texts, 64)
		slices.Sort(texts)
		equal(t, "sorted", want, texts)
		r.Shuffle(len(texts), func(i, j int) { texts[i], texts[j] = texts[j], texts[i] })
		s, _ := New(2 + r.Intn(5))
		plain := s
		for _, x := range texts {
			s, _ = Push(s, x)
			plain, _ = Push(plain, x)
			if r.Intn(4) == 0 {
				s, _ = Flush(s)
			}
			if m, e := Merge(s); e == api.OK && r.Intn(2) == 0 {
				s = m
			}
			equal(t, "valid", Valid(s), true)
		}
		counts, _, _ := Finish(s)
		var got []string
		for _, c := range counts {
			got = append(got, slices.Repeat([]string{c.Text}, c.Count)...)
		}
		equal(t, "counts", got, want)
		_, plain, _ = Finish(plain)
		_, same, _ := Sort(texts, plain.Memory)
		equal(t, "Sort is New, Push and Finish", same, plain)
	}
}

func TestTwoRuns(t *testing.T) {
	m, e := Merge(api.Spill{Memory: 2, Runs: [][]api.Count{run("b1"), run("a2")}, Written: 2})
	equal(t, "merge", list(m, e), list(api.Spill{Memory: 2, Runs: [][]api.Count{run("a2", "b1")}, Peak: 2, Written: 4}, 0))
}
