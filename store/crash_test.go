package store_test

import (
	"fmt"
	"maps"
	"slices"
	"strings"
	"testing"

	"chirograph/api"
	"chirograph/disk"
	"chirograph/journal"
	"chirograph/level"
	"chirograph/store"
)

// script is calls thrown by dice.
func script(seed, n int) []call {
	r := dice(seed)
	var l []call
	for range n {
		l = append(l, r.call())
	}
	return l
}

// till plays calls up to the one at which the disk dies: its place, or how many calls there are.
func (g *play) till(t *testing.T, l []call) int {
	t.Helper()
	for i, c := range l {
		e := g.do(c)
		if g.d.Dead() {
			is(t, c.what, e, api.ErrDead)
			return i
		}
		is(t, c.what, e, api.OK)
		g.p = c.behind(g.p)
	}
	return len(l)
}

// again opens a store behind a death; while it does so the disk may die, at whichever deed, and crash, time and again.
func (g *play) again(t *testing.T, keep, deed int) int {
	t.Helper()
	for deaths := 0; ; deaths++ {
		g.d.Crash([]int{keep})
		if deaths < 3 {
			g.d.Arm(deed)
		}
		s, e := store.Open(g.d, g.o)
		if e == api.OK {
			g.d.Arm(-1)
			g.s = s
			return deaths
		}
		is(t, "Open", e, api.ErrDead)
		if s != nil {
			t.Fatal("a store beside an error")
		}
	}
}

// settled asks which of two states a store has behind a crash, whole: does it have the second one?
func (g *play) settled(t *testing.T, ahead, behind plain) bool {
	t.Helper()
	l, e := g.s.Scan("", "")
	is(t, "Scan", e, api.OK)
	g.p = ahead
	if slices.Equal(l, behind.list("", "")) {
		g.p = behind
	}
	lies(t, g.d, g.s, g.p)
	has(t, g.s, g.p)
	return maps.Equal(g.p, behind) && !maps.Equal(ahead, behind)
}

// P13.2: at whichever deed the disk dies, opening included, and whatever is kept of what isn't sure: behind the crash there is what was ahead of the call, or what is behind it; and it goes on.
func TestEveryDeath(t *testing.T) {
	count := map[string]int{}
	for seed := range 15 {
		calls := script(seed, 13)
		for deed, over := 0, false; !over; deed++ {
			for i, keep := range []int{0, -1, 1, 13} {
				g := began(t, 1<<20, options()[seed%5])
				g.d.Arm(deed)
				at := g.till(t, calls)
				if over = at == len(calls); over {
					break
				}
				count[calls[at].what]++
				count["deaths of Open"] += g.again(t, keep, (deed+i)%4)
				if g.settled(t, g.p, calls[at].behind(g.p)) {
					count["behind"]++
				} else if calls[at].what == "Write" {
					count["ahead"]++
				}
				goesOn(t, g, seed+deed)
			}
		}
	}
	for _, what := range []string{"Write", "Flush", "Step", "Whole", "deaths of Open", "behind", "ahead"} {
		if count[what] < 40 {
			t.Errorf("%s but %d times: %v", what, count[what], count)
		}
	}
}

// goesOn: a store that was opened behind a crash is as good as any.
func goesOn(t *testing.T, g *play, seed int) {
	t.Helper()
	for _, c := range script(seed, 4) {
		is(t, c.what, g.do(c), api.OK)
		g.p = c.behind(g.p)
	}
	g.again(t, 0, 2)
	lies(t, g.d, g.s, g.p)
	has(t, g.s, g.p)
}

// P13.2: Open itself dies where there is something to remove.
func TestDeathOfOpen(t *testing.T) {
	for deed := range 7 {
		d := disk.New(1 << 20)
		manifest(t, d, 9, 6, sorted(t, d, 4, 0, there("a", "1")))
		for _, name := range []string{journal.Name(0), journal.Name(5), "man~", store.Name(3), store.Name(9), "tab-x"} {
			laid(t, d, name, "x")
		}
		laid(t, d, journal.Name(6), framed(t, spelt(there("c", "3"))))
		d.Arm(deed)
		s, e := store.Open(d, still())
		if deed < 6 {
			if s != nil || e != api.ErrDead {
				t.Fatalf("armed with %d: %v, %d", deed, s, e)
			}
			d.Crash(nil)
			s, e = store.Open(d, still())
		}
		is(t, "Open", e, api.OK)
		lies(t, d, s, plain{"a": "1", "c": "3"})
	}
}

// P13.2: many deaths, one behind the other, of one store.
func TestManyDeaths(t *testing.T) {
	count := 0
	for seed := range 60 {
		r := dice(seed)
		g := began(t, 1<<20, options()[seed%5])
		for range 25 {
			l := script(seed*1000+r.roll(1000), 6)
			g.d.Arm(r.roll(30))
			at := g.till(t, l)
			if at == len(l) {
				l = append(l, call{})
			} else {
				count++
			}
			g.again(t, r.roll(60)-30, r.roll(9))
			g.settled(t, g.p, l[at].behind(g.p))
		}
	}
	if count < 500 {
		t.Errorf("%d deaths", count)
	}
}

// P13.2: a batch of which the journal has but a part isn't there; of which it has all, is.
func TestTornBatch(t *testing.T) {
	l := []api.Entry{there("a", "2"), gone("b"), there("c", "2")}
	frame := len(framed(t, spelt(l...)))
	for keep := range frame + 1 {
		for deed := range 2 {
			d := disk.New(1 << 20)
			s := opened(t, d, still())
			written(t, s, there("a", "1"), there("b", "1"))
			d.Arm(deed)
			is(t, "Write", s.Write(l), api.ErrDead)
			d.Crash([]int{keep})
			s = opened(t, d, still())
			p := plain{"a": "1", "b": "1"}
			if keep == frame {
				p = p.behind(l)
			}
			lies(t, d, s, p)
			written(t, s, there("d", "3"))
			s = opened(t, d, still())
			lies(t, d, s, p.behind([]api.Entry{there("d", "3")}))
		}
	}
}

// P13.2: a batch is kept, whole, as soon as it is sure, even if the disk dies while it is flushed; Write tells that it died.
func TestDeathOfRelief(t *testing.T) {
	o := options()[1]
	for deed := range 40 {
		d := disk.New(1 << 20)
		s := opened(t, d, o)
		written(t, s, there("a", "1"), there("b", "1"))
		d.Arm(deed)
		e := s.Write([]api.Entry{gone("a"), there("c", "2"), there("d", "2")})
		if e == api.OK {
			if deed < 6 {
				t.Errorf("armed with %d it didn't die", deed)
			}
			return
		}
		is(t, "Write", e, api.ErrDead)
		d.Crash(nil)
		want := plain{"b": "1", "c": "2", "d": "2"}
		if deed < 2 { // Append and Sync of the journal
			want = plain{"a": "1", "b": "1"}
		}
		s = opened(t, d, o)
		lies(t, d, s, want)
		has(t, s, want)
	}
	t.Error("it always dies")
}

// P13.1: of a dead disk all calls say so, but those that ask nothing of it.
func TestDead(t *testing.T) {
	d := disk.New(1 << 20)
	s := opened(t, d, still())
	written(t, s, there("a", "1"))
	flushed(t, s)
	written(t, s, there("b", "2"))
	state := s.State()
	d.Arm(0)
	is(t, "Sync", d.Sync("man"), api.ErrDead)
	for range 2 {
		is(t, "Write", s.Write([]api.Entry{there("c", "3")}), api.ErrDead)
		is(t, "Write", s.Write([]api.Entry{{}}), api.ErrForm)
		is(t, "Write", s.Write(wide(4000)), api.ErrBig)
		is(t, "Write", s.Write(nil), api.OK)
		is(t, "Flush", s.Flush(), api.ErrDead)
		is(t, "Whole", s.Whole(), api.ErrDead)
		if did, e := s.Step(); did || e != api.ErrDead {
			t.Errorf("Step: %v, %d", did, e)
		}
		for _, k := range []string{"a", "b", "c", ""} {
			if v, ok, e := s.Get(k); v != "" || ok || e != api.ErrDead {
				t.Errorf("Get(%q): %q, %v, %d", k, v, ok, e)
			}
		}
		if l, e := s.Scan("", ""); len(l) != 0 || e != api.ErrDead {
			t.Errorf("Scan: %v, %d", l, e)
		}
		kept(t, s, 2)
		if x := s.State(); x.Next != state.Next || x.Log != state.Log || !slices.Equal(x.Files, state.Files) {
			t.Errorf("State: %v", x)
		}
		if x, e := store.Open(d, still()); x != nil || e != api.ErrDead {
			t.Errorf("Open: %v, %d", x, e)
		}
		if x, e := store.Open(d, store.Options{}); x != nil || e != api.ErrArg {
			t.Errorf("Open: %v, %d", x, e)
		}
	}
	d.Crash(nil)
	lies(t, d, opened(t, d, still()), plain{"a": "1", "b": "2"})
	// With nothing in memory, and nothing to put together, they say so too.
	d = disk.New(100)
	s = opened(t, d, still())
	d.Arm(0)
	is(t, "Append", d.Append("x", ""), api.ErrDead)
	is(t, "Flush", s.Flush(), api.ErrDead)
	is(t, "Whole", s.Whole(), api.ErrDead)
	_, e := s.Step()
	is(t, "Step", e, api.ErrDead)
}

// full is a call on a disk that may have no room: of ErrFull nothing has changed.
func (g *play) full(t *testing.T, c call) api.Errno {
	t.Helper()
	before, ahead := files(t, g.d), g.s.State()
	e := g.do(c)
	switch {
	case e == api.OK:
		g.p = c.behind(g.p)
	case e != api.ErrFull || c.what == "Open":
		t.Fatalf("%s: %d", c.what, e)
	case c.what != "Whole": // of which some of the jobs may be done
		if x := g.s.State(); !maps.Equal(files(t, g.d), before) || x.Next != ahead.Next || x.Log != ahead.Log || !slices.Equal(x.Files, ahead.Files) {
			t.Fatalf("%s: something has changed", c.what)
		}
	}
	lies(t, g.d, g.s, g.p)
	has(t, g.s, g.p)
	return e
}

// P13.3: on disks of any room: what has no room changes nothing.
func TestFull(t *testing.T) {
	count := map[string]int{}
	for seed := range 120 {
		r := dice(seed)
		room := 30 + 25*seed
		g := began(t, room, options()[seed%5])
		for range 40 {
			c := r.call()
			fits := g.d.Used()+len(framed(t, spelt(c.l...))) <= room
			e := g.full(t, c)
			if c.what == "Write" && fits != (e == api.OK) {
				t.Fatalf("Write: %d, but that there is room is %v", e, fits)
			}
			count[fmt.Sprint(c.what, e)]++
		}
		g.again(t, 0, 1)
		lies(t, g.d, g.s, g.p)
	}
	for _, what := range []string{"Write0", "Write9", "Flush0", "Flush9", "Step0", "Step9", "Whole0", "Whole9", "Open0"} {
		if count[what] < 10 {
			t.Errorf("%s but %d times: %v", what, count[what], count)
		}
	}
}

// P13.3: a batch goes in, if there is just the room for it, and of a batch that doesn't nothing does.
func TestRoomOfABatch(t *testing.T) {
	l := []api.Entry{there("a", "1"), there("b", strings.Repeat("v", 50)), gone("c")}
	need := len(framed(t, spelt(l...)))
	for _, o := range options() {
		d := disk.New(need - 1)
		s := opened(t, d, o)
		is(t, "Write", s.Write(l), api.ErrFull)
		if len(d.List()) != 0 {
			t.Error("something was written")
		}
		has(t, s, plain{})
		kept(t, s, 0)
		d = disk.New(need)
		s = opened(t, d, o)
		written(t, s, l...) // that there is no room for tables isn't told
		lies(t, d, s, entriesOf(l))
		is(t, "Flush", s.Flush(), api.ErrFull)
		is(t, "Whole", s.Whole(), api.ErrFull)
		stepped(t, s, false)
		is(t, "Write", s.Write([]api.Entry{there("d", "")}), api.ErrFull)
		lies(t, d, s, entriesOf(l))
		lies(t, d, opened(t, d, o), entriesOf(l))
	}
}

// P13.3: a disk that dies while a flush for which there is no room is undone says so.
func TestDeathOfUndoing(t *testing.T) {
	o := store.Options{Mem: 1 << 20, Block: 1, Table: 1, Limits: still().Limits}
	l := []api.Entry{there("a", "1"), there("b", "2"), there("c", "3")}
	d := disk.New(170) // for the batch, and two tables
	s := opened(t, d, o)
	written(t, s, l...)
	for deed := 0; ; deed++ {
		d.Arm(deed)
		e := s.Flush()
		if e == api.ErrFull {
			if deed != 6 { // Append, Sync, Remove of each
				t.Errorf("%d: nothing was laid", deed)
			}
			break
		}
		is(t, "Flush", e, api.ErrDead)
		d.Crash([]int{deed})
		s = opened(t, d, o)
		lies(t, d, s, entriesOf(l))
	}
	d.Arm(-1)
	lies(t, d, s, entriesOf(l))
}

// P13.3: nor does a table go in where there may be no file more.
func TestMostFiles(t *testing.T) {
	for _, left := range []int{1, 2, 3, 4} { // the journal's, one of each table, one of the state
		d := disk.New(1 << 20)
		for i := range 4096 - left {
			laid(t, d, fmt.Sprint("other", i), "")
		}
		o := still()
		o.Table = 1
		s := opened(t, d, o)
		written(t, s, there("a", "1"), there("b", "2"))
		if left < 4 {
			is(t, "Flush", s.Flush(), api.ErrFull)
			if len(d.List()) != 4097-left || s.State().Files != nil {
				t.Errorf("%d files", len(d.List()))
			}
		} else {
			flushed(t, s)
		}
		has(t, s, plain{"a": "1", "b": "2"})
		has(t, opened(t, d, o), plain{"a": "1", "b": "2"})
	}
}

// refused asks that a store whose state can't be another one stays as it is, but takes batches.
func refused(t *testing.T, d *disk.Disk, s *store.Store, p plain, want api.Errno, calls ...string) {
	t.Helper()
	before, state := files(t, d), s.State()
	g := &play{d: d, s: s}
	for _, what := range calls {
		is(t, what, g.do(call{what: what}), want)
		if x := s.State(); !maps.Equal(files(t, d), before) || x.Next != state.Next || !slices.Equal(x.Files, state.Files) {
			t.Fatalf("%s: something has changed", what)
		}
	}
	has(t, s, p)
	written(t, s, there("more", "x"))
	lies(t, d, s, p.behind([]api.Entry{there("more", "x")}))
}

// P13.1: numbers above 2^30.
func TestRefusedNumbers(t *testing.T) {
	o := options()[1]
	quiet := still()
	for _, x := range []struct{ next, log int }{{1 << 30, 0}, {1<<30 - 1, 0}, {0, 1 << 30}} {
		d := disk.New(1 << 20)
		manifest(t, d, x.next, x.log)
		s := opened(t, d, quiet)
		flushed(t, s)
		written(t, s, there("a", "1"))
		p := plain{"a": "1"}
		if x.next != 1<<30-1 {
			refused(t, d, s, p, api.ErrArg, "Flush", "Whole")
			refused(t, d, opened(t, d, o), p.behind([]api.Entry{there("more", "x")}), api.ErrArg, "Flush", "Whole")
			continue
		}
		flushed(t, s) // the last number that there is
		lies(t, d, s, p)
		// Without tables to come nothing is above.
		s = opened(t, d, o)
		if _, e := s.Step(); e != api.ErrArg {
			t.Errorf("Step: %d", e)
		}
		refused(t, d, s, p, api.ErrArg, "Step", "Whole")
	}
	d := disk.New(1 << 20)
	manifest(t, d, 1<<30, 0, sorted(t, d, 1<<30-1, 0, gone("a")))
	s := opened(t, d, o)
	stepped(t, s, true) // no table comes
	lies(t, d, s, plain{})
	if x := s.State(); len(x.Files) != 0 || x.Next != 1<<30 {
		t.Errorf("%v", x)
	}
}

// P13.1: more than 1000 tables, or a state that can't be spelt.
func TestRefusedTables(t *testing.T) {
	one := store.Options{Mem: 1 << 20, Block: 1, Table: 1, Limits: level.Limits{Count: 1, Size: 1 << 30}}
	for _, x := range []struct {
		n, long int
		want    api.Errno
	}{{1000, 5, api.OK}, {1001, 5, api.ErrBig}, {300, 100, api.OK}, {320, 100, api.ErrBig}} {
		for _, first := range []store.Options{still(), one} {
			d := disk.New(1 << 21)
			s := opened(t, d, still())
			p := plain{}
			for i := range x.n {
				y := there(fmt.Sprintf("%0*d", x.long, i), "v")
				written(t, s, y)
				p[y.Key] = y.Value
			}
			calls := []string{"Step", "Whole"}
			if first == one {
				calls = []string{"Flush", "Whole"}
			} else {
				flushed(t, s)
			}
			s = opened(t, d, one)
			if x.want == api.ErrBig {
				refused(t, d, s, p, x.want, calls...)
				continue
			}
			is(t, "Whole", s.Whole(), api.OK)
			if n := len(s.State().Files); n != x.n {
				t.Errorf("%d tables", n)
			}
			lies(t, d, s, p)
		}
	}
}

// P13.1: want of room is told ahead of what the state refuses (K2).
func TestFullAheadOfRefused(t *testing.T) {
	d := disk.New(200)
	manifest(t, d, 1<<30, 0)
	s := opened(t, d, still())
	written(t, s, there("a", strings.Repeat("v", 100)))
	is(t, "Flush", s.Flush(), api.ErrFull)
	lies(t, d, s, plain{"a": strings.Repeat("v", 100)})
	d = disk.New(1 << 20)
	for i := range 3500 {
		laid(t, d, fmt.Sprint("other", i), "")
	}
	o := store.Options{Mem: 1 << 20, Block: 1, Table: 1, Limits: level.Limits{Count: 1, Size: 1}}
	s = opened(t, d, o)
	for i := range 6 {
		written(t, s, many(1500)[i*250:][:250]...)
	}
	is(t, "Flush", s.Flush(), api.ErrFull)
	has(t, s, entriesOf(many(1500)))
}
