package script_test

import (
	"fmt"
	"math"
	"slices"
	"strconv"
	"strings"
	"testing"

	"chirograph/api"
	"chirograph/audit"
	"chirograph/book"
	"chirograph/disk"
	"chirograph/level"
	"chirograph/script"
	"chirograph/store"
)

func publish(l ...book.Update) script.Step {
	return script.Step{Kind: script.Publish, Updates: l}
}

// P23.1, P23.4: the chapter's example.
func TestExample(t *testing.T) {
	for _, o := range options(1, 0) {
		g := began(t, o, 1<<20)
		g.does(t, publish(book.Update{Id: "ann", Value: "x"}))
		lookup := script.Step{Kind: script.Lookup, Id: "ann"}
		there := script.Result{Version: 1, State: book.Present, Value: "x"}
		same(t, lookup, g.Do(lookup), there)
		is(t, "Ask", g.Ask("ann"), api.OK)
		steps := []script.Step{{Kind: script.Arm, N: 0}, publish(book.Update{Id: "ann", Value: "y"}), lookup, {Kind: script.Crash}, lookup}
		dead := script.Result{Err: api.ErrDead}
		for i, r := range g.Play(steps) {
			same(t, steps[i], r, []script.Result{{}, dead, dead, {}, there}[i])
		}
		g.has(t)
	}
}

// P23.1: New answers the error of book.Open, and of a disk of any room none.
func TestNew(t *testing.T) {
	for i, bend := range []func(*book.Options){
		func(o *book.Options) { *o = book.Options{} },
		func(o *book.Options) { o.Store.Mem = 0 },
		func(o *book.Options) { o.Store.Block = 0 },
		func(o *book.Options) { o.Store.Table = 0 },
		func(o *book.Options) { o.Store.Table = 1<<15 + 1 },
		func(o *book.Options) { o.Store.Limits.Count = 0 },
		func(o *book.Options) { o.Store.Limits.Size = 0 },
		func(o *book.Options) { o.Key = "" },
		func(o *book.Options) { o.Key = strings.Repeat("k", 65) },
		func(o *book.Options) { o.Retain = 0 },
		func(o *book.Options) { o.Retain = 1<<20 + 1 },
		func(o *book.Options) { o.Grace = -1 },
		func(o *book.Options) { o.Grace = 1<<20 + 1 },
	} {
		o := options(1, 0)[i%3]
		bend(&o)
		w, e := script.New(o, 1<<20)
		is(t, "New", e, api.ErrArg)
		if w != nil {
			t.Errorf("%v: a world beside an error", o)
		}
	}
	for _, room := range []int{math.MinInt, -1, 0, 1, math.MaxInt} {
		g := began(t, options(1<<20, 1<<20)[room&1], room)
		g.has(t)
		if len(g.Links) > 0 || g.Room() != 0 {
			t.Errorf("%d links, %d bytes", len(g.Links), g.Room())
		}
	}
}

// P23.1: the disk has just so much room: an epoch that fills it is there, of one byte less there is none.
func TestJustRoom(t *testing.T) {
	s := publish(book.Update{Id: "ann", Value: strings.Repeat("v", 200)})
	o := options(1, 0)[2]
	g := began(t, o, math.MaxInt)
	g.does(t, s)
	g.has(t)
	for _, less := range []int{0, 1} {
		h := began(t, o, g.Room()-less)
		want := []api.Errno{api.OK, api.ErrFull}[less]
		r := h.Do(s)
		if r.Err != want || r.Epoch != 1-less || len(h.Links) != 1-less {
			t.Errorf("%d bytes less: %v, %d links", less, r, len(h.Links))
		}
	}
}

// twin is a directory on its disk with which is done what the chapter says, by hand.
type twin struct {
	d     *disk.Disk
	b     *book.Book
	o     book.Options
	links []audit.Link
}

func newTwin(t *testing.T, o book.Options, room int) *twin {
	t.Helper()
	d := disk.New(room)
	b, e := book.Open(d, o)
	is(t, "book.Open", e, api.OK)
	return &twin{d: d, b: b, o: o}
}

func (w *twin) do(s script.Step) script.Result {
	if s.Kind == script.Arm {
		w.d.Arm(s.N)
		return script.Result{}
	}
	if s.Kind == script.Crash {
		w.d.Crash(s.Keeps)
		s = script.Step{Kind: script.Open}
	}
	if s.Kind < 1 || s.Kind > 10 {
		return script.Result{Err: api.ErrArg}
	}
	if w.d.Dead() {
		return script.Result{Err: api.ErrDead}
	}
	var r script.Result
	var c book.Change
	var a book.Answer
	var l []book.Answer
	switch s.Kind {
	case script.Publish:
		c, r.Err = w.b.Publish(s.Updates)
	case script.Bury:
		c, r.Err = w.b.Bury()
	case script.Drop:
		c, r.Err = w.b.Drop()
	case script.Whole:
		r.Err = w.b.Whole()
	case script.Lookup:
		a, r.Err = w.b.Lookup(s.Id)
	case script.Version:
		a, r.Err = w.b.Version(s.Id, s.N)
	case script.History:
		l, r.Err = w.b.History(s.Id)
	case script.Open:
		b, e := book.Open(w.d, w.o)
		if r.Err = e; e == api.OK {
			w.b = b
		}
	}
	if s.Kind <= script.Drop && r.Err == api.OK {
		w.links = append(w.links, audit.Link{Kind: s.Kind, Change: c})
	}
	r.Epoch, r.Version, r.State, r.Value = c.Epoch, a.Version, a.State, a.Value
	for _, x := range l {
		r.All = append(r.All, x.Version)
	}
	return r
}

func linked(a, b audit.Link) bool {
	x, y := a.Change, b.Change
	return a.Kind == b.Kind && x.Epoch == y.Epoch && x.Top == y.Top && x.Step == y.Step && slices.Equal(x.Seeds, y.Seeds)
}

// P23.1: whatever the script, with armed disks, deaths, crashes, full disks and wrong steps: each result, the links and the room are those of a directory that is called by hand.
func TestByHand(t *testing.T) {
	count := map[string]int{}
	for seed := range 120 {
		r := dice(seed)
		o := options(1+seed%2, seed%3)[seed%3]
		room := 1 << 20
		if seed%5 == 0 {
			room = 500 + r.roll(4000)
		}
		g, w := began(t, o, room), newTwin(t, o, room)
		var steps []script.Step
		for range 60 {
			steps = append(steps, r.any())
		}
		all := g.Play(steps)
		if len(all) != len(steps) {
			t.Fatalf("%d results of %d steps", len(all), len(steps))
		}
		for i, s := range steps {
			want := w.do(s)
			same(t, s, all[i], want)
			count[fmt.Sprint(s.Kind, want.Err == api.OK)]++
			count[fmt.Sprint("error ", want.Err)]++
		}
		if !slices.EqualFunc(g.Links, w.links, linked) || g.Room() != w.d.Used() {
			t.Fatalf("%d links instead of %d, or others; room %d instead of %d", len(g.Links), len(w.links), g.Room(), w.d.Used())
		}
	}
	for kind := 1; kind <= 10; kind++ {
		fails := kind != script.Arm && kind != script.Crash
		if count[fmt.Sprint(kind, true)] < 50 || fails && count[fmt.Sprint(kind, false)] < 20 {
			t.Errorf("kind %d too seldom: %v", kind, count)
		}
	}
	for _, e := range []api.Errno{api.ErrArg, api.ErrBig, api.ErrForm, api.ErrNone, api.ErrFull, api.ErrDead, api.ErrDouble} {
		if count[fmt.Sprint("error ", e)] < 3 {
			t.Errorf("error %d too seldom: %v", e, count)
		}
	}
}

// P23.1: a step of another kind is ErrArg, also of a dead disk, and does nothing.
func TestKinds(t *testing.T) {
	g := began(t, options(1, 0)[1], 1<<20)
	g.does(t, publish(book.Update{Id: "ann", Value: "x"}))
	g.does(t, publish(book.Update{Id: "ann", Value: "y"}))
	kinds := []int{math.MinInt, -1, 0, 11, 12, math.MaxInt}
	whole := script.Step{Updates: []book.Update{{Id: "ann"}}, Id: "ann", N: 1, Keeps: []int{1}}
	for _, kind := range kinds {
		whole.Kind = kind
		g.does(t, whole)
	}
	g.has(t)
	g.Play([]script.Step{{Kind: script.Arm}, {Kind: script.Bury}})
	for kind := script.Publish; kind <= script.History; kind++ {
		whole.Kind = kind
		same(t, whole, g.Do(whole), script.Result{Err: api.ErrDead})
		// Also where the call would tell of what it is asked.
		wrong := script.Step{Kind: kind, Updates: []book.Update{{}}, N: -1}
		same(t, wrong, g.Do(wrong), script.Result{Err: api.ErrDead})
	}
	for _, kind := range kinds {
		whole.Kind = kind
		same(t, whole, g.Do(whole), script.Result{Err: api.ErrArg})
	}
	// Of a dead disk an armed one isn't made.
	for _, s := range []script.Step{{Kind: script.Arm, N: 0}, {Kind: script.Arm, N: 100}} {
		same(t, s, g.Do(s), script.Result{})
	}
	is(t, "Ask", g.Ask("ann"), api.ErrDead)
	is(t, "Ask", g.Ask("Ann"), api.ErrDead)
	same(t, script.Step{}, g.Do(script.Step{Kind: script.Crash}), script.Result{})
	g.has(t)
}

// P23.1: the disk is armed with just N, and a crash disarms it.
func TestArm(t *testing.T) {
	for _, o := range options(1, 0) {
		for n := range 12 {
			g, w := began(t, o, 1<<20), newTwin(t, o, 1<<20)
			s := publish(book.Update{Id: "ann", Value: strconv.Itoa(n)})
			g.Do(script.Step{Kind: script.Arm, N: n})
			w.d.Arm(n)
			times := 0
			for !w.d.Dead() {
				same(t, s, g.Do(s), w.do(s))
				times++
			}
			if times == 0 || g.Do(s).Err != api.ErrDead {
				t.Fatalf("armed with %d: %d times", n, times)
			}
			// Armed below 0 it lives on, crashed while it is armed, too.
			g.Play([]script.Step{{Kind: script.Crash}, {Kind: script.Arm, N: 0}, {Kind: script.Arm, N: -1}})
			is(t, "Publish", g.Do(s).Err, api.OK)
			g.Play([]script.Step{{Kind: script.Arm, N: 0}, {Kind: script.Crash}})
			is(t, "Publish", g.Do(s).Err, api.OK)
		}
	}
}

// P23.1: Play of no steps has no results, and the same as Do, step by step.
func TestPlay(t *testing.T) {
	g, h := began(t, options(1, 1)[0], 1<<20), began(t, options(1, 1)[0], 1<<20)
	if len(g.Play(nil)) != 0 || len(g.Play([]script.Step{})) != 0 {
		t.Error("results of nothing")
	}
	r := dice(5)
	var steps []script.Step
	for range 200 {
		steps = append(steps, r.step())
	}
	for i, x := range g.Play(steps) {
		same(t, steps[i], x, h.does(t, steps[i]))
	}
	g.p, g.links = h.p, h.links
	g.has(t)
}

// P23.3, P23.2: without deaths, on a disk with room, the results are those of plain lists of versions, and all is believed.
func TestPlain(t *testing.T) {
	count := map[string]int{}
	for seed := range 45 {
		r := dice(seed)
		g := began(t, options(1+seed%3, seed/3%3)[seed%3], 1<<22)
		for i := range 70 {
			s := r.step()
			x := g.does(t, s)
			count[fmt.Sprint(s.Kind, " ", x.Err)]++
			if s.Kind == script.Version {
				count[fmt.Sprint("state ", x.State)]++
			}
			if i%6 == 0 {
				is(t, "Ask", g.Ask(ids()[i%5]), api.OK)
			}
		}
		g.has(t)
	}
	for _, what := range []string{"1 0", "1 2", "1 5", "1 14", "2 0", "2 7", "3 0", "3 7", "4 0", "5 0", "6 0", "6 3", "7 0", "7 1", "7 3", "8 0", "8 3", "11 1", "state 0", "state 1", "state 2"} {
		if count[what] == 0 {
			t.Errorf("%s but %d times: %v", what, count[what], count)
		}
	}
}

// P23.3: more versions than are buried, or dropped, at once.
func TestMany(t *testing.T) {
	g := began(t, options(2, 1)[1], 1<<22)
	var l []book.Update
	for i := range 32 {
		l = append(l, book.Update{Id: "id" + strconv.Itoa(i), Value: strings.Repeat("v", 200)})
	}
	for range 4 {
		g.does(t, publish(l...))
	}
	for range 5 {
		g.does(t, script.Step{Kind: script.Bury})
		g.does(t, script.Step{Kind: script.Drop})
		g.does(t, publish())
	}
	if g.p.kept() != 32 {
		t.Errorf("%d versions", g.p.kept())
	}
	g.has(t)
}

// P23.2: of what is no identity Ask tells why.
func TestAskWrongly(t *testing.T) {
	for _, id := range []string{"", "Ann", "a..b", ".", "a b", "\xff", strings.Repeat("a", 41), "aЯ"} {
		g := began(t, options(1, 0)[0], 1<<20)
		want := g.Do(script.Step{Kind: script.Lookup, Id: id}).Err
		if want == api.OK || g.Ask(id) != want {
			t.Errorf("%q: %d instead of %d", id, g.Ask(id), want)
		}
		g.does(t, publish(book.Update{Id: "ann"}))
		is(t, "Ask", g.Ask(id), want)
	}
}

// P23.1: of as many links as epochs an auditor is asked, whose top is to be the directory's; of fewer none.
func TestAuditor(t *testing.T) {
	g, other := began(t, options(1, 0)[2], 1<<20), began(t, options(1, 0)[2], 1<<20)
	for _, s := range []script.Step{publish(book.Update{Id: "ann", Value: "x"}), publish(book.Update{Id: "ann", Value: "y"}), {Kind: script.Bury}, {Kind: script.Drop}} {
		g.does(t, s)
	}
	for range 4 {
		other.does(t, publish(book.Update{Id: "bob"}))
	}
	own := g.Links
	is(t, "Ask", g.Ask("ann"), api.OK)
	for i := range own {
		bent := slices.Clone(own)
		bent[i].Change.Epoch++
		g.Links = bent
		is(t, "a bent link", g.Ask("ann"), api.ErrEpoch)
		bent[i].Kind = 4
		is(t, "a bent link", g.Ask("ann"), api.ErrArg)
		is(t, "a bent link, and no identity", g.Ask("Ann"), api.ErrForm)
		// There aren't just as many now.
		g.Links = bent[:3]
		is(t, "fewer links", g.Ask("ann"), api.OK)
		g.Links = append(bent, bent...)
		is(t, "more links", g.Ask("ann"), api.OK)
	}
	g.Links = other.Links
	is(t, "other links", g.Ask("ann"), api.ErrProof)
	g.Links = own
	g.has(t)
}

// K3: what is handed in isn't changed or kept, and results share nothing.
func TestMemory(t *testing.T) {
	g := began(t, options(1, 0)[1], 1<<20)
	// With spare room behind the lists.
	l := append(make([]book.Update, 0, 4), book.Update{Id: "ann", Value: "x"}, book.Update{Id: "bob", Value: "y"})
	keeps := append(make([]int, 0, 4), 3, -1)
	g.does(t, publish(l...))
	l[0], l[1] = book.Update{Id: "c"}, book.Update{Id: "d"}
	g.has(t)
	g.does(t, publish(l...))
	g.Play([]script.Step{{Kind: script.Crash, Updates: l, Keeps: keeps}})
	if !slices.Equal(l[:4], []book.Update{{Id: "c"}, {Id: "d"}, {}, {}}) || !slices.Equal(keeps[:4], []int{3, -1, 0, 0}) {
		t.Errorf("%v, %v", l[:4], keeps[:4])
	}
	h := script.Step{Kind: script.History, Id: "ann"}
	first := g.Do(h)
	first.All[0] = 7
	_ = append(first.All[:1], 9)
	g.has(t)
	// Two worlds are one another's nothing.
	other := began(t, options(1, 0)[1], 1<<20)
	other.does(t, publish(book.Update{Id: "ann", Value: "z"}))
	other.has(t)
	g.has(t)
}

// settle buries and drops all that may be, and puts the store together.
func (g *play) settle(t *testing.T) {
	t.Helper()
	for done := 0; done < 2; {
		done = 0
		for _, kind := range []int{script.Bury, script.Drop} {
			if g.does(t, script.Step{Kind: kind}).Err == api.ErrNone {
				done++
			}
		}
	}
	g.does(t, script.Step{Kind: script.Whole})
}

// bounded asks for the room that a directory may take.
func (g *play) bounded(t *testing.T) {
	t.Helper()
	if most := 700*g.p.kept() + 2000; g.Room() > most {
		t.Errorf("%v: room %d, and for %d versions at most %d", g.o, g.Room(), g.p.kept(), most)
	}
}

// stores are those of which the options are at their edges, and some between.
func stores() []store.Options {
	var l []store.Options
	for _, mem := range []int{1, 1 << 20} {
		for _, block := range []int{1, 100, 1 << 14} {
			for _, table := range []int{1, 400, 1 << 15} {
				for _, limits := range []level.Limits{{Count: 1, Size: 1}, {Count: 3, Size: 1000}, {Count: 100, Size: 1 << 30}} {
					l = append(l, store.Options{Mem: mem, Block: block, Table: table, Limits: limits})
				}
			}
		}
	}
	return l
}

// P23.1, P7: whatever the options, the identities and the values, a settled directory takes few bytes for each version that is kept.
func TestRoom(t *testing.T) {
	for i, s := range stores() {
		long := []int{4, 40}[i%2]
		for _, retain := range []int{1, 1000} {
			g := began(t, book.Options{Store: s, Key: "k", Retain: retain, Grace: i % 3}, 1<<26)
			for n := range 6 {
				var l []book.Update
				for at := range 10 {
					id := "i" + strconv.Itoa(at)
					l = append(l, book.Update{Id: id + strings.Repeat("x", long-len(id)), Value: strings.Repeat(strconv.Itoa(n), 200)})
				}
				g.does(t, publish(l...))
			}
			for range 3 {
				g.does(t, publish())
			}
			g.settle(t)
			if n := g.p.kept(); n != 60 && n != 10 {
				t.Errorf("%d versions", n)
			}
			g.bounded(t)
		}
	}
}

// P23.1, P7: so many versions that each leaf in a table of its own would be more tables than a store has: all are kept, or but the last one.
func TestRoomOfMany(t *testing.T) {
	for _, retain := range []int{1, 1000} {
		s := store.Options{Mem: 1 << 20, Block: 1, Table: 1, Limits: level.Limits{Count: 100, Size: 1 << 30}}
		g := began(t, book.Options{Store: s, Key: "k", Retain: retain}, 1<<28)
		for n := range 350 {
			g.does(t, publish(book.Update{Id: strings.Repeat("z", 40), Value: strings.Repeat(strconv.Itoa(n%10), 200)}))
		}
		g.settle(t)
		g.bounded(t)
		if n := g.p.kept(); n != 1 && n != 350 {
			t.Errorf("%d versions", n)
		}
	}
}
