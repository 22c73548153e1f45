package book_test

import (
	"slices"
	"strings"
	"testing"

	"chirograph/api"
	"chirograph/book"
	"chirograph/disk"
)

// script is calls thrown by dice.
func script(seed, n int) []call {
	r := dice(seed)
	var l []call
	for range n {
		l = append(l, r.call())
	}
	return l
}

// till plays calls up to the one at which the disk dies: its place, or how many calls there are.
func (g *play) till(t *testing.T, l []call) int {
	t.Helper()
	for i, c := range l {
		change, e := g.do(c)
		if g.d.Dead() {
			is(t, c.what, e, api.ErrDead)
			nothing(t, change)
			return i
		}
		p, _ := g.behind(c)
		if e != api.OK && (e != api.ErrNone || p.epoch > g.p.epoch) {
			t.Fatalf("%s: %d", c.what, e)
		}
		g.p = p
	}
	return len(l)
}

// again opens a directory behind a death; while it does so the disk may die, at whichever deed, and crash, time and again.
func (g *play) again(t *testing.T, keep, deed int) int {
	t.Helper()
	for deaths := 0; ; deaths++ {
		g.d.Crash([]int{keep})
		if deaths < 3 {
			g.d.Arm(deed)
		}
		b, e := book.Open(g.d, g.o)
		if e == api.OK {
			g.d.Arm(-1)
			g.b = b
			return deaths
		}
		is(t, "Open", e, api.ErrDead)
		if b != nil {
			t.Fatal("a directory beside an error")
		}
	}
}

// settled asks which of two states there is behind a crash, whole: is it the second one?
func (g *play) settled(t *testing.T, ahead, behind plain) bool {
	t.Helper()
	g.p = ahead
	if g.b.Epoch() == behind.epoch {
		g.p = behind
	}
	g.p.versions(t, g.b)
	return behind.epoch > ahead.epoch && g.b.Epoch() == behind.epoch
}

// P20.2: at whichever deed the disk dies, opening included, and whatever is kept of what isn't sure: behind the crash there is what was ahead of the call, or what is behind it, whole; and it goes on.
func TestEveryDeath(t *testing.T) {
	count := map[string]int{}
	for seed := range 7 {
		calls := append(script(seed, 5), call{"Publish", []book.Update{{Id: "a", Value: "1"}, {Id: "z", Value: "1"}}}, call{"Publish", []book.Update{{Id: "z", Value: "2"}, {Id: "b", Value: "2"}, {Id: "a", Value: "2"}}}, call{what: "Bury"}, call{what: "Drop"})
		for deed, over := 0, false; !over; deed++ {
			g := began(t, 1<<20, options(1, seed%2)[seed%3])
			g.d.Arm(deed)
			at := g.till(t, calls)
			if over = at == len(calls); over {
				break
			}
			// Each third death keeps nothing of what isn't sure, each third one all.
			count["deaths of Open"] += g.again(t, []int{0, -1, 7}[(seed/3+deed)%3], deed%4)
			p, _ := g.behind(calls[at])
			if g.settled(t, g.p, p) {
				count[calls[at].what+", behind"]++
			} else if p.epoch > g.p.epoch {
				count[calls[at].what+", ahead"]++
			}
			goesOn(t, g, seed+deed)
		}
	}
	for _, what := range []string{"Publish, behind", "Publish, ahead", "Bury, behind", "Bury, ahead", "Drop, behind", "Drop, ahead", "deaths of Open"} {
		if count[what] < 8 {
			t.Errorf("%s but %d times: %v", what, count[what], count)
		}
	}
}

// goesOn: a directory that was opened behind a crash is as good as any.
func goesOn(t *testing.T, g *play, seed int) {
	t.Helper()
	for _, c := range script(seed, 2) {
		g.calls(t, c)
	}
	g.again(t, 0, 2)
	g.p.sums(t, g.b)
}

// P20.2: many deaths, one behind the other, of one directory.
func TestManyDeaths(t *testing.T) {
	count := 0
	for seed := range 9 {
		r := dice(seed)
		g := began(t, 1<<20, options(1+seed%2, seed%3)[seed%3])
		for range 15 {
			l := script(seed*1000+r.roll(1000), 6)
			g.d.Arm(r.roll(20))
			at := g.till(t, l)
			if at == len(l) {
				l = append(l, call{})
			} else {
				count++
			}
			g.again(t, r.roll(60)-30, r.roll(9))
			p, _ := g.behind(l[at])
			g.settled(t, g.p, p)
		}
	}
	if count < 50 {
		t.Errorf("%d deaths", count)
	}
}

// P20.2: an epoch of which the disk has but a part isn't there; of which it has all, is.
func TestTorn(t *testing.T) {
	behind := 0
	for keep := range 600 {
		g := began(t, 1<<20, options(1, 0)[2])
		g.publishes(t, "x", "ann")
		g.d.Arm(1)
		c := call{"Publish", []book.Update{{Id: "ann", Value: "y"}, {Id: "bob", Value: "z"}}}
		_, e := g.do(c)
		is(t, "Publish", e, api.ErrDead)
		g.d.Crash([]int{keep})
		g.b = opened(t, g.d, g.o)
		p, _ := g.behind(c)
		if g.settled(t, g.p, p) {
			behind++
		}
	}
	if behind == 0 || behind > 2 {
		t.Errorf("%d of 600 are there", behind)
	}
}

// P20.5: on a disk of any room: where there is none nothing has changed; what needs less goes on.
func TestFull(t *testing.T) {
	count := map[string]int{}
	for seed := range 60 {
		r := dice(seed)
		g := began(t, 300+170*seed, options(1, 0)[seed%3])
		for range 20 {
			c := r.call()
			p, w := g.behind(c)
			change, e := g.do(c)
			if e == api.ErrFull {
				count[c.what]++
				nothing(t, change)
				g.p.sums(t, g.b)
				continue
			}
			if e == api.OK && p.epoch > g.p.epoch {
				changes(t, change, w, g.p, p)
			} else if e != api.OK && (e != api.ErrNone || p.epoch > g.p.epoch) {
				t.Fatalf("%s: %d", c.what, e)
			}
			g.p = p
		}
		g.p.has(t, g.b, "nobody")
		g.b = opened(t, g.d, g.o)
		g.p.has(t, g.b, "nobody")
	}
	for _, what := range []string{"Publish", "Bury", "Drop", "Whole"} {
		if count[what] < 3 {
			t.Errorf("%s but %d times", what, count[what])
		}
	}
}

// P20.5: a disk without any room at all.
func TestNoRoom(t *testing.T) {
	for _, o := range options(1, 0) {
		g := began(t, 0, o)
		for _, l := range [][]book.Update{nil, {{Id: "a", Value: strings.Repeat("v", 200)}}} {
			c, e := g.b.Publish(l)
			is(t, "Publish", e, api.ErrFull)
			nothing(t, c)
		}
		is(t, "Whole", g.b.Whole(), api.OK)
		g.p.has(t, g.b, "a")
		if l := g.d.List(); len(l) > 0 {
			t.Errorf("%v", l)
		}
	}
}

// K2: of a dead disk all that is asked of it answers that, and nothing else.
func TestDead(t *testing.T) {
	g := began(t, 1<<20, options(1, 0)[1])
	g.publishes(t, "x", "ann")
	g.publishes(t, "y", "ann")
	g.d.Arm(0)
	is(t, "Sync", g.d.Sync("log-0000000000"), api.ErrDead)
	for _, f := range []func() (book.Change, api.Errno){g.b.Bury, g.b.Drop, func() (book.Change, api.Errno) { return g.b.Publish(nil) }, func() (book.Change, api.Errno) { return g.b.Publish([]book.Update{{Id: "b"}}) }} {
		c, e := f()
		is(t, "a change", e, api.ErrDead)
		nothing(t, c)
	}
	a, e := g.b.Lookup("ann")
	is(t, "Lookup", e, api.ErrDead)
	c, e := g.b.Version("ann", 1)
	is(t, "Version", e, api.ErrDead)
	h, e := g.b.History("ann")
	is(t, "History", e, api.ErrDead)
	n, e := g.b.Leaves()
	is(t, "Leaves", e, api.ErrDead)
	is(t, "Whole", g.b.Whole(), api.ErrDead)
	if a != (book.Answer{}) || c != a || len(h) > 0 || n != 0 {
		t.Errorf("%v, %v, %v, %d", a, c, h, n)
	}
	// What is asked wrongly is told ahead of that.
	_, e = g.b.Publish([]book.Update{{Id: "A"}})
	is(t, "Publish", e, api.ErrForm)
	_, e = g.b.Lookup("A")
	is(t, "Lookup", e, api.ErrForm)
	_, e = g.b.History("A")
	is(t, "History", e, api.ErrForm)
	_, e = g.b.Version("ann", -1)
	is(t, "Version", e, api.ErrArg)
	g.d.Crash(nil)
	g.b = opened(t, g.d, g.o)
	g.p.has(t, g.b)
}

// P20.1: behind Whole what was dropped takes no room: few entries are kept.
func TestFewKept(t *testing.T) {
	var used []int
	for _, times := range []int{2, 12} {
		g := began(t, 1<<22, options(1, 0)[1])
		for range times {
			g.publishes(t, strings.Repeat("v", 200), names()...)
		}
		for _, what := range slices.Repeat([]string{"Bury", "Drop"}, times) {
			g.calls(t, call{what: what})
		}
		is(t, "Whole", g.b.Whole(), api.OK)
		g.p.has(t, g.b)
		if n, _ := g.b.Leaves(); n != 20 {
			t.Errorf("%d leaves", n)
		}
		used = append(used, g.d.Used())
	}
	if used[1] > used[0]*11/10 || used[0] > 2000+10*900 {
		t.Errorf("%d bytes", used)
	}
}

// P20.1, P7: with tables of a byte, too, few bytes are kept for a version, and no more tables than a store has.
func TestSmallTables(t *testing.T) {
	for retain, want := range map[int]int{1: 2, 1000: 700} {
		o := options(retain, 0)[0]
		o.Store.Mem = 1 << 20
		d := disk.New(1 << 22)
		b := opened(t, d, o)
		for range 350 {
			_, e := b.Publish([]book.Update{{Id: strings.Repeat("z", 40), Value: strings.Repeat("v", 200)}})
			is(t, "Publish", e, api.OK)
		}
		for _, f := range slices.Repeat([]func() (book.Change, api.Errno){b.Bury, b.Drop}, 10) {
			if _, e := f(); e != api.OK {
				is(t, "Bury or Drop", e, api.ErrNone)
			}
		}
		is(t, "Whole", b.Whole(), api.OK)
		n, e := opened(t, d, o).Leaves()
		is(t, "Leaves", e, api.OK)
		if most := 350*n + 2000; n != want || d.Used() > most {
			t.Errorf("%d leaves instead of %d; %d bytes, and at most %d", n, want, d.Used(), most)
		}
	}
}

// A disk that isn't the directory's own isn't touched.
func TestOwnDisk(t *testing.T) {
	d, other := disk.New(1<<20), disk.New(1<<20)
	b, c := opened(t, d, options(1, 0)[0]), opened(t, other, options(1, 0)[0])
	_, e := b.Publish([]book.Update{{Id: "a"}})
	is(t, "Publish", e, api.OK)
	if c.Epoch() != 0 || other.Used() != 0 || c.Top() == b.Top() {
		t.Error("touched")
	}
}
