package script_test

import (
	"maps"
	"slices"
	"strings"
	"testing"

	"chirograph/api"
	"chirograph/audit"
	"chirograph/book"
	"chirograph/level"
	"chirograph/name"
	"chirograph/script"
	"chirograph/store"
)

// dice are numbers of all kinds, other ones for each seed.
type dice uint32

func (d *dice) roll(n int) int {
	*d = *d*1664525 + 1013904223
	return int(*d>>8) % n
}

// ids are those of the dice's steps.
func ids() []string {
	return []string{"ann", "ann.b", "bob", "яя", strings.Repeat("z", 40)}
}

// updates are some, of no identity twice.
func (d *dice) updates() []book.Update {
	var l []book.Update
	for _, id := range ids() {
		if d.roll(3) == 0 {
			l = append(l, book.Update{Id: id, Value: strings.Repeat(string(rune('a'+d.roll(26))), d.roll(201))})
		}
	}
	return l
}

// step is one of any kind but Arm and Crash.
func (d *dice) step() script.Step {
	kinds := []int{script.Publish, script.Publish, script.Publish, script.Bury, script.Bury, script.Drop, script.Whole, script.Open, script.Lookup, script.Version, script.History}
	s := script.Step{Kind: kinds[d.roll(len(kinds))], Updates: d.updates(), Id: ids()[d.roll(len(ids()))], N: d.roll(6)}
	if d.roll(12) == 0 {
		return d.bent(s)
	}
	return s
}

// bent is a step with which something is wrong, if it is of a kind that asks for it.
func (d *dice) bent(s script.Step) script.Step {
	switch d.roll(6) {
	case 0:
		s.Id = "Ann"
	case 1:
		s.N = []int{-1, api.MaxEpoch + 1}[d.roll(2)]
	case 2:
		s.Kind = []int{0, -1, 11, 1 << 30}[d.roll(4)]
	case 3:
		s.Updates = append(s.Updates, book.Update{Id: "new", Value: strings.Repeat("v", 201)})
	case 4:
		s.Updates = append(s.Updates, book.Update{Id: "new"}, book.Update{Id: "new"})
	case 5:
		s.Updates = append(s.Updates, book.Update{})
	}
	return s
}

// any is a step of any kind: now and then the disk is armed, or crashes.
func (d *dice) any() script.Step {
	s := d.step()
	switch d.roll(10) {
	case 0:
		s.Kind, s.N = script.Arm, d.roll(28)-3
	case 1, 2:
		s.Kind, s.Keeps = script.Crash, []int{d.roll(9) - 4, d.roll(300), -1}[:d.roll(4)]
	}
	return s
}

// options are of stores that flush at each batch, now and then, never.
func options(retain, grace int) []book.Options {
	var l []book.Options
	for _, s := range []store.Options{
		{Mem: 1, Block: 1, Table: 1, Limits: level.Limits{Count: 2, Size: 100}},
		{Mem: 700, Block: 200, Table: 500, Limits: level.Limits{Count: 3, Size: 1500}},
		{Mem: 1 << 20, Block: 1 << 14, Table: 1 << 15, Limits: level.Limits{Count: 100, Size: 1 << 30}},
	} {
		l = append(l, book.Options{Store: s, Key: "secret", Retain: retain, Grace: grace})
	}
	return l
}

func is(t *testing.T, what string, e, want api.Errno) {
	t.Helper()
	if e != want {
		t.Fatalf("%s: %d instead of %d", what, e, want)
	}
}

// value is a version: its value, which epoch superseded it (0: none), its state.
type value struct {
	text        string
	past, state int
}

// plain is a directory as plain lists of versions, from 1 on.
type plain struct {
	epoch int
	ids   map[string][]value
}

func (p plain) copy() plain {
	q := plain{p.epoch, map[string][]value{}}
	for id, l := range p.ids {
		q.ids[id] = slices.Clone(l)
	}
	return q
}

// do: the lists behind a step that is neither Arm nor Crash, where the disk has room, and what it answers.
func (p plain) do(o book.Options, s script.Step) (plain, script.Result) {
	q := p.copy()
	switch s.Kind {
	case script.Publish:
		return q, q.publish(s.Updates)
	case script.Bury:
		return q, q.retire(o.Retain, book.Present, book.Buried)
	case script.Drop:
		return q, q.retire(o.Retain+o.Grace, book.Buried, book.Absent)
	case script.Whole, script.Open:
		return q, script.Result{}
	case script.Lookup, script.Version, script.History:
		return q, q.asked(s)
	}
	return q, script.Result{Err: api.ErrArg}
}

func (p *plain) publish(l []book.Update) script.Result {
	if e := book.Check(l); e != api.OK {
		return script.Result{Err: e}
	}
	p.epoch++
	for _, u := range l {
		if n := len(p.ids[u.Id]); n > 0 {
			p.ids[u.Id][n-1].past = p.epoch
		}
		p.ids[u.Id] = append(p.ids[u.Id], value{text: u.Value, state: book.Present})
	}
	return script.Result{Epoch: p.epoch}
}

// retire: versions of one state, superseded so many epochs ahead of a new one, come into the next state.
func (p *plain) retire(age, from, to int) script.Result {
	n := 0
	for _, id := range slices.Sorted(maps.Keys(p.ids)) {
		for i := range p.ids[id] {
			v := &p.ids[id][i]
			if n == 40 || v.state != from || v.past == 0 || p.epoch+1-v.past < age {
				continue
			}
			v.state = to
			n++
		}
	}
	if n == 0 {
		return script.Result{Err: api.ErrNone}
	}
	p.epoch++
	return script.Result{Epoch: p.epoch}
}

// asked is what Lookup, Version, History answer.
func (p plain) asked(s script.Step) script.Result {
	if _, e := name.Check(s.Id); e != api.OK {
		return script.Result{Err: e}
	}
	last := len(p.ids[s.Id])
	switch {
	case s.Kind == script.History:
		var l []int
		for n := last; n >= 0; n-- {
			l = append(l, n)
			if p.version(s.Id, n).State == book.Absent {
				break
			}
		}
		return script.Result{All: l}
	case s.Kind == script.Lookup:
		return p.version(s.Id, last)
	case s.N < 0 || s.N > api.MaxEpoch:
		return script.Result{Err: api.ErrArg}
	}
	return p.version(s.Id, s.N)
}

// version is what there is to tell of one.
func (p plain) version(id string, n int) script.Result {
	r := script.Result{Version: n}
	l := p.ids[id]
	if n == 0 && len(l) > 0 {
		r.State = book.Present
	}
	if n == 0 || n > len(l) {
		return r
	}
	r.State = l[n-1].state
	if r.State == book.Present {
		r.Value = l[n-1].text
	}
	return r
}

// kept is how many versions aren't dropped.
func (p plain) kept() int {
	n := 0
	for _, l := range p.ids {
		for _, v := range l {
			if v.state != book.Absent {
				n++
			}
		}
	}
	return n
}

// play is a world, what it is to have, and which kinds of changes it told of.
type play struct {
	*script.World
	o     book.Options
	p     plain
	links []int
}

func began(t *testing.T, o book.Options, room int) *play {
	t.Helper()
	w, e := script.New(o, room)
	is(t, "New", e, api.OK)
	return &play{w, o, plain{ids: map[string][]value{}}, nil}
}

// same asks whether a step's result is the one that it is to be.
func same(t *testing.T, s script.Step, r, want script.Result) {
	t.Helper()
	if !slices.Equal(r.All, want.All) || (r.All == nil) != (want.All == nil) || r.Err != want.Err || r.Epoch != want.Epoch || r.Version != want.Version || r.State != want.State || r.Value != want.Value {
		t.Fatalf("%v: %v instead of %v", s, r, want)
	}
}

// tells that a step's change is there.
func (g *play) tells(s script.Step, e api.Errno) {
	if e == api.OK && s.Kind <= script.Drop {
		g.links = append(g.links, s.Kind)
	}
}

// does: a step, whose result is to be that of the lists.
func (g *play) does(t *testing.T, s script.Step) script.Result {
	t.Helper()
	p, want := g.p.do(g.o, s)
	r := g.Do(s)
	same(t, s, r, want)
	g.p = p
	g.tells(s, r.Err)
	return r
}

// has asks for all that there is to be.
func (g *play) has(t *testing.T) {
	t.Helper()
	for _, id := range append(slices.Sorted(maps.Keys(g.p.ids)), "nobody") {
		g.does(t, script.Step{Kind: script.Lookup, Id: id})
		g.does(t, script.Step{Kind: script.History, Id: id})
		for n := range len(g.p.ids[id]) + 2 {
			g.does(t, script.Step{Kind: script.Version, Id: id, N: n})
		}
		is(t, "Ask", g.Ask(id), api.OK)
	}
	var links []int
	for _, l := range g.Links {
		links = append(links, l.Kind)
	}
	if !slices.Equal(links, g.links) {
		t.Fatalf("links %v instead of %v", links, g.links)
	}
	g.content(t)
}

// content asks whether an auditor who isn't the world's own is, where all epochs were told of.
func (g *play) content(t *testing.T) {
	t.Helper()
	if len(g.links) < g.p.epoch {
		return
	}
	a, e := audit.New(g.o.Retain, g.o.Grace)
	is(t, "audit.New", e, api.OK)
	a, n, e := a.All(g.Links)
	if e != api.OK || n != g.p.epoch || a.Epoch != n {
		t.Fatalf("All: %v, %d, %d", a, n, e)
	}
}
