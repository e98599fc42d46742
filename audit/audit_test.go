package audit

import (
	"fmt"
	"math"
	"math/rand"
	"reflect"
	"strings"
	"testing"

	"tablefinder/access"
	"tablefinder/api"
	"tablefinder/clone"
	"tablefinder/profile"
	"tablefinder/search"
	"tablefinder/segment"
	"tablefinder/snapshot"
)

func equal(t *testing.T, what string, got, want any) {
	t.Helper()
	if g, w := fmt.Sprintf("%+v", got), fmt.Sprintf("%+v", want); g != w {
		t.Errorf("%s:\n got %s\nwant %s", what, g, w)
	}
}

func list(l ...any) []any { return l }

// tab makes a table of columns, each a name and its words, where _ is null.
func tab(id int, columns ...string) api.Table {
	t := api.Table{ID: id}
	for _, s := range columns {
		words := strings.Fields(s)
		c := api.Column{Name: words[0]}
		for _, w := range words[1:] {
			c.Cells = append(c.Cells, api.Cell{Null: w == "_", Text: strings.Trim(w, "_")})
		}
		t.Columns = append(t.Columns, c)
	}
	return t
}

func put(t api.Table) api.Event { return api.Event{Kind: api.EvPut, Table: t} }

func event(kind, a, b int) api.Event { return api.Event{Kind: kind, A: a, B: b} }

func rule(allow bool, table, column int) api.Event {
	return api.Event{Kind: api.EvRule, Permission: api.Permission{User: "u", Allow: allow, Table: table, Column: column}}
}

func ask(version, workers int) api.Event {
	return api.Event{Kind: api.EvAsk, A: version, B: workers, User: "u", Query: api.Query{Kind: api.AskOverlap, K: 9, Table: tab(0, "q x y")}}
}

func codes(p api.Plant) []int {
	var l []int
	for _, s := range p.Log {
		l = append(l, int(s.Code))
	}
	return l
}

func TestP45_1(t *testing.T) {
	equal(t, "new", New(), api.Plant{})
	x, y := tab(1, "a x"), tab(1, "a y")
	p := Run(New(), []api.Event{put(x), rule(true, 0, -1), ask(0, 2), put(y), ask(0, 1), ask(1, 1)})
	equal(t, "log", codes(p), []int{0, 0, 0, 0, 0, 0})
	hits := p.Log[2].Answer.Hits
	equal(t, "answers", list(len(hits), p.Log[4].Answer, p.Log[5].Answer, p.Log[2].Kind), list(1, p.Log[2].Answer, p.Log[2].Answer, api.EvAsk))
	equal(t, "store", list(p.Now.Collection.Version, segment.Tables(p.Now.Index), len(p.Now.Index.List), len(p.Now.Rules), p.Durable), list(2, []int{1}, 2, 1, api.Store{}))
	q := Run(p, []api.Event{event(api.EvMerge, 0, 1), event(api.EvSave, 0, 0), event(api.EvDrop, 1, 0), event(api.EvVacuum, 3, 0), ask(1, 1), ask(3, 1)})
	equal(t, "more", list(codes(q)[6:], q.Now.Collection, segment.Tables(q.Now.Index), q.Durable.Collection.Version, len(q.Now.Index.List)), list([]int{0, 0, 0, 0, 23, 0}, api.Collection{Version: 3, Oldest: 3}, []int{}, 2, 1))
	r := Run(q, []api.Event{event(api.EvCrash, 0, 0), ask(0, 1)})
	equal(t, "crash", list(r.Now, len(r.Log), r.Log[13].Answer), list(r.Durable, 14, p.Log[4].Answer))
	equal(t, "put and crash", Run(New(), []api.Event{put(x), event(api.EvCrash, 0, 0)}).Now, api.Store{})
	var many []api.Event
	for range 201 {
		many = append(many, event(api.EvSave, 0, 0))
	}
	equal(t, "most events", list(len(Run(p, many).Log), len(Run(p, many[:3]).Log)), list(206, 9))
}

func TestP45_1Errors(t *testing.T) {
	base := Run(New(), []api.Event{put(tab(1, "a x")), put(tab(2, "a x")), rule(true, 0, -1)})
	for i, x := range []struct {
		e    api.Event
		code api.Errno
	}{
		{api.Event{}, 25}, {event(9, 0, 0), 25}, {event(-1, 0, 0), 25}, {put(tab(0, "a x")), 1}, {put(tab(-1)), 1}, {event(api.EvDrop, 3, 0), 5}, {rule(true, -1, 0), 22}, {api.Event{Kind: api.EvRule}, 22}, {event(api.EvMerge, 0, 0), 2}, {event(api.EvMerge, 0, 2), 2}, {ask(3, 1), 23}, {ask(-1, 1), 23}, {ask(0, 0), 2}, {ask(0, 9), 2}, {event(api.EvVacuum, 3, 0), 23}, {event(api.EvVacuum, -1, 0), 23}, {event(api.EvVacuum, math.MaxInt, 0), 23},
	} {
		p, e := Step(base, x.e)
		equal(t, fmt.Sprint(i), list(e, p.Now, p.Durable, len(p.Log), p.Log[3]), list(x.code, base.Now, base.Durable, 4, api.Saw{Kind: x.e.Kind, Code: x.code}))
	}
	full := base
	for range 62 {
		full, _ = Step(full, put(tab(1, "a x")))
	}
	p, e := Step(full, put(tab(1, "a y")))
	equal(t, "segments", list(e, p.Now, Check(p.Now)), list(3, full.Now, true))
	p, e = Step(full, event(api.EvMerge, 5, 60))
	p, f := Step(p, put(tab(1, "a y")))
	equal(t, "merged", list(e, f, Check(p.Now)), list(0, 0, true))
	before := clone.Plant(base)
	p, _ = Step(base, event(api.EvSave, 0, 0))
	p.Now.Collection.Items[0].Table.Columns[0].Cells[0].Text, p.Now.Index.List[0].Tables[0] = "!", 9
	equal(t, "shared memory", list(base, p.Durable), list(before, before.Now))
}

func TestP45_2(t *testing.T) {
	p := Run(New(), []api.Event{put(tab(1, "a x")), put(tab(2, "a x")), rule(true, 0, -1)})
	equal(t, "check", list(Check(p.Now), Check(api.Store{})), list(true, true))
	for i, change := range []func(s *api.Store){
		func(s *api.Store) { s.Collection.Version = -1 }, func(s *api.Store) { s.Rules[0].User = "" }, func(s *api.Store) { s.Index.Gone = nil }, func(s *api.Store) { s.Collection.Items[0].Table.Columns[0].Cells[0].Text = "y" }, func(s *api.Store) { s.Index, _ = segment.Remove(s.Index, 1) },
		func(s *api.Store) { s.Collection, _ = snapshot.Drop(s.Collection, 1) }, func(s *api.Store) { s.Collection, _ = snapshot.Put(s.Collection, tab(3)) }, func(s *api.Store) { s.Index, _ = segment.Add(s.Index, []api.Table{tab(3)}) },
	} {
		s := clone.Store(p.Now)
		change(&s)
		equal(t, fmt.Sprint(i), Check(s), false)
	}
	l := []api.Table{tab(1, "a x y", "b y z"), tab(4, "c x _"), tab(6, "d x y")}
	rules := []api.Permission{{User: "u", Allow: true, Column: -1}, {User: "u", Table: 6, Column: 0}, {User: "u", Table: 1, Column: 1}}
	hit := func(table, n int) api.Hit { return api.Hit{Ref: api.Ref{Table: table}, Score: whole(n)} }
	equal(t, "plain", list(Plain(rules, "u", l, []string{"y", "x", "x"}, 9), Plain(rules, "u", l, []string{"y", "x"}, 1), Plain(rules, "u", l, []string{"x"}, 0), Plain(rules, "u", l, []string{"x"}, math.MinInt), Plain(rules, "v", l, []string{"x"}, 9), Plain(rules[:1], "u", l, []string{"x"}, math.MaxInt)), list([]api.Hit{hit(1, 2), hit(4, 1)}, []api.Hit{hit(1, 2)}, []api.Hit{}, []api.Hit{}, []api.Hit{}, []api.Hit{hit(1, 1), hit(4, 1), hit(6, 1)}))
}

// random returns an event.
func random(r *rand.Rand) api.Event {
	words := func() string {
		return " " + strings.Join([]string{"x", "y", "z", "1", "2", "_", "3"}[r.Intn(4):][:3], " ")
	}
	switch kind := []int{1, 1, 1, 2, 3, 4, 5, 5, 5, 6, 7, 8}[r.Intn(12)]; kind {
	case api.EvPut:
		return put(tab(1+r.Intn(4), "a"+words(), "b"+words()))
	case api.EvRule:
		return rule(r.Intn(3) > 0, r.Intn(5), r.Intn(3)-1)
	case api.EvAsk:
		e := ask(r.Intn(4)*r.Intn(3), 1+r.Intn(8))
		e.Query = api.Query{Kind: 1 + r.Intn(7), Column: r.Intn(3), Other: r.Intn(3), K: r.Intn(4), Table: tab(0, "a"+words(), "b"+words())}
		return e
	default:
		return event(kind, r.Intn(5), r.Intn(4))
	}
}

// TestConsequences plays scripts, and compares what they answer with what the layers say of the snapshot.
func TestConsequences(t *testing.T) {
	r := rand.New(rand.NewSource(1))
	answered := 0
	for range 150 {
		p := New()
		var script []api.Event
		for n := range 25 {
			e := random(r)
			if n == 0 && r.Intn(3) > 0 {
				e = rule(true, 0, -1)
			}
			script = append(script, e)
			before := p
			q, code := Step(p, e)
			saw := q.Log[len(q.Log)-1]
			equal(t, "saw", list(saw.Kind, saw.Code, Check(q.Now), Check(q.Durable)), list(e.Kind, code, true, true))
			if code != api.OK {
				equal(t, "unchanged", list(q.Now, q.Durable, saw.Answer), list(before.Now, before.Durable, api.Answer{}))
			}
			p = q
			if e.Kind != api.EvAsk || code != api.OK {
				continue
			}
			version := e.A
			if version == 0 {
				version = p.Now.Collection.Version
			}
			l, _ := snapshot.At(p.Now.Collection, version)
			want, _ := search.Ask(p.Now.Rules, "u", l, e.Query)
			equal(t, "answer", saw.Answer, want)
			if e.Query.Kind == api.AskOverlap {
				answered += len(saw.Answer.Hits)
				equal(t, "plain", saw.Answer.Hits, Plain(p.Now.Rules, "u", l, profile.Values(e.Query.Table.Columns[e.Query.Column]), e.Query.K))
			}
			for i, a := range l {
				for j := range a.Columns {
					if !access.May(p.Now.Rules, "u", api.Ref{Table: a.ID, Column: j}) {
						l[i].Columns[j] = api.Column{Name: "a", Cells: make([]api.Cell, len(a.Columns[j].Cells))}
					}
				}
			}
			hidden, _ := search.Ask(p.Now.Rules, "u", l, e.Query)
			equal(t, "hidden", hidden, want)
		}
		if !reflect.DeepEqual(Run(New(), script), p) {
			equal(t, "run", Run(New(), script), p)
		}
	}
	equal(t, "some", answered > 20, true)
}

// TestMemory checks that the parts of a plant, and plants that come from each other, share no memory.
func TestMemory(t *testing.T) {
	change := func(s *api.Store) {
		s.Collection.Items[0].Table.Columns[0].Cells[0].Text, s.Index.List[0].Index.Values[0], s.Rules[0].User = "!", "!", "!"
	}
	p := Run(New(), []api.Event{put(tab(1, "a x")), rule(true, 0, -1), event(api.EvSave, 0, 0), event(api.EvCrash, 0, 0)})
	before := clone.Plant(p)
	change(&p.Now)
	equal(t, "crash", p.Durable, before.Durable)
	p = clone.Plant(before)
	q := Run(p, nil)
	change(&q.Now)
	change(&q.Durable)
	equal(t, "run", p, before)
	s := clone.Store(before.Now)
	s.Index.List[0].Index.Lists[0] = nil
	equal(t, "lists", Check(s), false)
	other := clone.Store(before.Now)
	other.Index, _ = segment.Add(api.Segments{}, []api.Table{tab(1, "a y")})
	equal(t, "values", Check(other), false)
}
