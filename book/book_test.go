package book_test

import (
	"fmt"
	"slices"
	"strings"
	"testing"

	"chirograph/api"
	"chirograph/book"
	"chirograph/disk"
	"chirograph/label"
	"chirograph/level"
	"chirograph/node"
	"chirograph/step"
	"chirograph/store"
)

// names are identities of which some begin as others do, or hold against others in unlike ways as bytes and as runes.
func names() []string {
	return []string{"a", "a.b", "a-b", "ab", "a0", "ä", "z", "яя.1", "b+c", strings.Repeat("ж", 40)}
}

// updates are up to n of them, no identity twice.
func (d *dice) updates(n int) []book.Update {
	all := names()
	var l []book.Update
	for range d.roll(n + 1) {
		u := book.Update{Id: all[d.roll(len(all))], Value: strings.Repeat(string(rune('a'+d.roll(26))), min(200, d.roll(4)*d.roll(80)))}
		if !slices.ContainsFunc(l, func(x book.Update) bool { return x.Id == u.Id }) {
			l = append(l, u)
		}
	}
	return l
}

// play is a directory, beside plain lists of what it has.
type play struct {
	d *disk.Disk
	o book.Options
	b *book.Book
	p plain
}

func began(t *testing.T, room int, o book.Options) *play {
	t.Helper()
	d := disk.New(room)
	return &play{d, o, opened(t, d, o), plain{ids: map[string][]value{}}}
}

// call is one call: Publish with updates, Bury, Drop, Whole, Open.
type call struct {
	what    string
	updates []book.Update
}

func (d *dice) call() call {
	switch d.roll(10) {
	case 0, 1:
		return call{what: "Bury"}
	case 2, 3:
		return call{what: "Drop"}
	case 4:
		return call{what: []string{"Whole", "Open"}[d.roll(2)]}
	}
	return call{"Publish", d.updates(4)}
}

// do is the call of the directory: its change, its error.
func (g *play) do(c call) (book.Change, api.Errno) {
	switch c.what {
	case "Publish":
		return g.b.Publish(c.updates)
	case "Bury":
		return g.b.Bury()
	case "Drop":
		return g.b.Drop()
	case "Whole":
		return book.Change{}, g.b.Whole()
	}
	b, e := book.Open(g.d, g.o)
	if e == api.OK {
		g.b = b
	}
	return book.Change{}, e
}

// behind is what there is behind a call that nothing stops, and what the call is to tell.
func (g *play) behind(c call) (plain, told) {
	p := g.p.copy()
	var w told
	switch c.what {
	case "Publish":
		w = p.publish(c.updates)
	case "Bury":
		w = p.bury(g.o)
	case "Drop":
		w = p.drop(g.o)
	}
	return p, w
}

// calls: a call that nothing stops, and what it tells.
func (g *play) calls(t *testing.T, c call) {
	t.Helper()
	p, w := g.behind(c)
	change, e := g.do(c)
	switch {
	case p.epoch > g.p.epoch:
		is(t, c.what, e, api.OK)
		changes(t, change, w, g.p, p)
	case c.what == "Bury" || c.what == "Drop":
		is(t, c.what, e, api.ErrNone)
		nothing(t, change)
	default:
		is(t, c.what, e, api.OK)
	}
	g.p = p
}

// publishes is a Publish that nothing stops, of one value for each of these identities.
func (g *play) publishes(t *testing.T, value string, ids ...string) {
	t.Helper()
	c := call{what: "Publish"}
	for _, id := range ids {
		c.updates = append(c.updates, book.Update{Id: id, Value: value})
	}
	g.calls(t, c)
}

// nothing asks that a change is the zero one.
func nothing(t *testing.T, c book.Change) {
	t.Helper()
	if c.Epoch != 0 || c.Top != (api.Label{}) || len(c.Seeds) != 0 || c.Step != "" {
		t.Fatalf("beside an error: %v", c)
	}
}

// P20.1, P20.3: the chapter's example, and the constants.
func TestExample(t *testing.T) {
	for _, o := range options(1, 0) {
		g := began(t, 1<<20, o)
		g.p.has(t, g.b, "ann")
		g.publishes(t, "x", "ann")
		g.publishes(t, "y", "ann")
		a, _ := g.b.Lookup("ann")
		n, _ := g.b.Leaves()
		if a.Version != 2 || a.Value != "y" || n != 4 {
			t.Errorf("%v, %d leaves", a, n)
		}
		g.calls(t, call{what: "Bury"})
		if a, _ = g.b.Version("ann", 1); a.State != book.Buried || a.Value != "" || a.At != 1 {
			t.Errorf("%v", a)
		}
		g.p.has(t, g.b, "bob")
		g.calls(t, call{what: "Drop"})
		a, _ = g.b.Version("ann", 1)
		h, _ := g.b.History("ann")
		if n, _ = g.b.Leaves(); g.b.Epoch() != 4 || n != 2 || a.State != book.Absent || a.At != 0 || len(h) != 2 || h[0].Version != 2 || h[1] != a {
			t.Errorf("%d leaves, %v, %v", n, a, h)
		}
		g.p.has(t, g.b, "bob")
	}
	if [...]int{book.Absent, book.Present, book.Buried, book.MaxSeeds} != [...]int{0, 1, 2, 40} {
		t.Error("constants")
	}
}

// P20.1, P20.3, P20.4: whatever is called, opened again at any time: just what plain lists of versions have, with proofs of it.
func TestAny(t *testing.T) {
	count := map[string]int{}
	for seed := range 24 {
		r := dice(seed)
		o := options(1+r.roll(4), r.roll(3))[seed%3]
		g := began(t, 1<<20, o)
		for range 30 {
			c := r.call()
			before := g.p.epoch
			g.calls(t, c)
			if g.p.epoch > before {
				count[c.what]++
			}
			g.p.sums(t, g.b)
		}
		g.p.has(t, g.b, names()...)
		g.b = opened(t, g.d, o)
		g.p.has(t, g.b, "nobody")
		is(t, "Whole", g.b.Whole(), api.OK)
		g.p.has(t, g.b)
	}
	for _, what := range []string{"Publish", "Bury", "Drop"} {
		if count[what] < 30 {
			t.Errorf("%s but %d times", what, count[what])
		}
	}
}

// P20.1: which options are right; a directory is opened with such alone.
func TestGood(t *testing.T) {
	right := options(1, 0)[1]
	for i, x := range []struct {
		alter func(*book.Options)
		want  bool
	}{
		{func(o *book.Options) {}, true}, {func(o *book.Options) { *o = book.Options{} }, false},
		{func(o *book.Options) { o.Store = store.Options{} }, false}, {func(o *book.Options) { o.Store.Mem = 0 }, false}, {func(o *book.Options) { o.Store.Block = 1<<14 + 1 }, false}, {func(o *book.Options) { o.Store.Limits = level.Limits{} }, false},
		{func(o *book.Options) { o.Key = "" }, false}, {func(o *book.Options) { o.Key = "\x00" }, true}, {func(o *book.Options) { o.Key = strings.Repeat("k", 64) }, true}, {func(o *book.Options) { o.Key = strings.Repeat("k", 65) }, false},
		{func(o *book.Options) { o.Retain = 0 }, false}, {func(o *book.Options) { o.Retain = -1 }, false}, {func(o *book.Options) { o.Retain = 1 << 20 }, true}, {func(o *book.Options) { o.Retain = 1<<20 + 1 }, false},
		{func(o *book.Options) { o.Grace = -1 }, false}, {func(o *book.Options) { o.Grace = 1 << 20 }, true}, {func(o *book.Options) { o.Grace = 1<<20 + 1 }, false}, {func(o *book.Options) { o.Retain, o.Grace = 1<<20, 1<<20 }, true},
	} {
		o := right
		x.alter(&o)
		if book.Good(o) != x.want {
			t.Errorf("%d: %v", i, o)
		}
		b, e := book.Open(disk.New(1<<20), o)
		if (b != nil) != x.want || (e == api.OK) != x.want || !x.want && e != api.ErrArg {
			t.Errorf("Open %d: %v, %d", i, b, e)
		}
	}
}

// P20.1: what Open answers of what it can't open, and ahead of what.
func TestOpenErrors(t *testing.T) {
	opens := func(d *disk.Disk, o book.Options, want api.Errno) {
		t.Helper()
		if b, e := book.Open(d, o); b != nil || e != want {
			t.Errorf("Open: %v, %d instead of %d", b, e, want)
		}
	}
	o := options(1, 0)[0]
	g := began(t, 1<<20, o)
	g.publishes(t, "x", "ann")
	g.d.Arm(0)
	is(t, "Sync", g.d.Sync("man"), api.ErrDead)
	opens(g.d, book.Options{}, api.ErrArg)
	opens(g.d, o, api.ErrDead)
	g.d.Crash(nil)
	// The first byte of the state, and the last one of a block's text.
	is(t, "Spoil", g.d.Spoil("man", 0, 1), api.OK)
	opens(g.d, o, api.ErrText)
	is(t, "Spoil", g.d.Spoil("man", 0, 1), api.OK)
	g.p.has(t, opened(t, g.d, o))
	for _, name := range g.d.List() {
		if strings.HasPrefix(name, "tab-") {
			is(t, "Spoil", g.d.Spoil(name, 9, 1), api.OK)
		}
	}
	opens(g.d, o, api.ErrSum)
}

// wrong are updates that aren't right, and their errors.
func wrong() map[api.Errno][][]book.Update {
	long := strings.Repeat("v", 201)
	return map[api.Errno][][]book.Update{
		api.ErrBig: {
			make([]book.Update, 33), {{"a", long}}, {{"a", "x"}, {"b", long}, {"b", "x"}}, {{"a", ""}, {"b", ""}, {"a", long}}, {{strings.Repeat("a", 41), long}}, {{"a", long}, {"A", ""}},
			append(slices.Repeat([]book.Update{{"A", long}}, 32), book.Update{}), {{"b", long}, {"b", ""}, {"", ""}},
		},
		api.ErrEnd:    {{{}}, {{"a", "x"}, {"", "x"}}, {{"", long}}},
		api.ErrText:   {{{"a\xff", ""}}, {{"a", ""}, {"\ufffd", long}, {"a", ""}}},
		api.ErrForm:   {{{"A", ""}}, {{"a.", ""}}, {{"a", ""}, {"a..b", long}}, {{"a", ""}, {"-", ""}, {"a", ""}}, {{"a b", ""}}, slices.Repeat([]book.Update{{"A", long}}, 32)},
		api.ErrDouble: {{{"a", "x"}, {"a", "x"}}, {{"a", ""}, {"b", ""}, {"a", "y"}, {"A", ""}}, slices.Repeat([]book.Update{{"a", ""}}, 32)},
	}
}

// P20.1: Check; Publish has its errors, and then nothing has changed.
func TestCheck(t *testing.T) {
	g := began(t, 1<<20, options(1, 0)[0])
	g.publishes(t, "x", "a", "c")
	for want, all := range wrong() {
		for _, l := range all {
			if e := book.Check(l); e != want {
				t.Errorf("Check of %.99q: %d instead of %d", l, e, want)
			}
			c, e := g.b.Publish(l)
			is(t, "Publish", e, want)
			nothing(t, c)
		}
	}
	g.p.has(t, g.b, "b")
	var most []book.Update
	for i := range 32 {
		most = append(most, book.Update{Id: fmt.Sprint("a", i), Value: strings.Repeat("v", 200-i%2)})
	}
	for _, l := range [][]book.Update{nil, {}, {{"a", ""}}, {{"a", "A.."}, {"a.a", ""}, {"aa", ""}, {"ä", "\xff\x00"}}, most, {{strings.Repeat("ж", 40), strings.Repeat("\x00", 200)}}} {
		is(t, "Check", book.Check(l), api.OK)
		kept := slices.Clone(l)
		g.calls(t, call{"Publish", l})
		if !slices.Equal(l, kept) {
			t.Errorf("changed: %q", l)
		}
		for i := range l {
			l[i] = book.Update{}
		}
		g.p.has(t, g.b)
	}
}

// P20.1: of what no identity is, or no version, nothing is told.
func TestWrongQuestions(t *testing.T) {
	g := began(t, 1<<20, options(1, 0)[1])
	g.publishes(t, "x", "ann")
	for id, want := range map[string]api.Errno{"": api.ErrEnd, "Ann": api.ErrForm, "ann.": api.ErrForm, "a\x00": api.ErrForm, "ann\xff": api.ErrText, strings.Repeat("a", 41): api.ErrBig, strings.Repeat("a", 1<<20): api.ErrBig} {
		for _, n := range []int{0, 1, -1, 1 << 30, 1<<30 + 1} {
			if a, e := g.b.Version(id, n); a != (book.Answer{}) || e != want {
				t.Errorf("Version(%.50q, %d): %v, %d", id, n, a, e)
			}
		}
		if a, e := g.b.Lookup(id); a != (book.Answer{}) || e != want {
			t.Errorf("Lookup(%.50q): %v, %d", id, a, e)
		}
		if h, e := g.b.History(id); len(h) != 0 || e != want {
			t.Errorf("History(%.50q): %v, %d", id, h, e)
		}
	}
	for _, id := range []string{"ann", "bob"} {
		for _, n := range []int{-1, -1 << 63, 1<<30 + 1, 1<<63 - 1} {
			if a, e := g.b.Version(id, n); a != (book.Answer{}) || e != api.ErrArg {
				t.Errorf("Version(%s, %d): %v, %d", id, n, a, e)
			}
		}
		g.p.answers(t, g.b, g.p.leaves(), id, 1<<30)
		g.p.answers(t, g.b, g.p.leaves(), id, 256)
	}
}

// P20.1, P20.4: from which epoch on a version is buried, and dropped: not earlier.
func TestAges(t *testing.T) {
	for retain := 1; retain < 5; retain++ {
		for grace := range 4 {
			g := began(t, 1<<20, options(retain, grace)[2])
			g.publishes(t, "1", "a", "b")
			g.publishes(t, "2", "a")
			// Superseded by epoch 2: the next epoch is 3.
			for next := 3; next < 2+retain; next++ {
				c, e := g.b.Bury()
				is(t, "Bury", e, api.ErrNone)
				nothing(t, c)
				g.publishes(t, "3")
				if a, e := g.b.Version("a", 1); e != api.OK || a.State != book.Present || a.Value != "1" {
					t.Fatalf("Retain %d, epoch %d: %v, %d", retain, next, a, e)
				}
			}
			_, e := g.b.Bury()
			is(t, "Bury", e, api.OK)
			g.p.bury(g.o)
			g.p.has(t, g.b)
			// Epoch 2 + Retain buried it.
			for next := 3 + retain; next < 2+retain+grace; next++ {
				c, e := g.b.Drop()
				is(t, "Drop", e, api.ErrNone)
				nothing(t, c)
				g.publishes(t, "4")
				if a, e := g.b.Version("a", 1); e != api.OK || a.State != book.Buried {
					t.Fatalf("Grace %d, epoch %d: %v, %d", grace, next, a, e)
				}
			}
			_, e = g.b.Drop()
			is(t, "Drop", e, api.OK)
			g.p.drop(g.o)
			g.p.has(t, g.b)
		}
	}
}

// P20.1: by rising identities, byte by byte, and then by versions, forty at once.
func TestForty(t *testing.T) {
	g := began(t, 1<<20, options(1, 0)[1])
	for n := range 6 {
		g.publishes(t, fmt.Sprint(n), names()...)
	}
	// Of ten identities five versions each; ten are left for another time.
	for _, what := range []string{"Bury", "Bury", "Bury", "Drop", "Drop", "Drop"} {
		g.calls(t, call{what: what})
		g.p.sums(t, g.b)
	}
	if g.p.epoch != 10 {
		t.Errorf("epoch %d", g.p.epoch)
	}
	g.p.has(t, g.b)
}

// P20.1: one identity of many versions: their numbers of one byte and of two rise as numbers do.
func TestManyVersions(t *testing.T) {
	g := began(t, 1<<22, options(3, 2)[2])
	for n := range 270 {
		l := []book.Update{{"ann", fmt.Sprint(n)}}
		_, e := g.b.Publish(l)
		is(t, "Publish", e, api.OK)
		g.p.publish(l)
	}
	g.p.sums(t, g.b)
	leaves := g.p.leaves()
	for _, n := range []int{0, 1, 2, 254, 255, 256, 257, 269, 270, 271} {
		g.p.answers(t, g.b, leaves, "ann", n)
	}
	a, e := g.b.Lookup("ann")
	if e != api.OK || a.Version != 270 || a.Value != "269" {
		t.Errorf("%v, %d", a, e)
	}
	for _, what := range []string{"Bury", "Drop"} {
		for range 7 {
			g.calls(t, call{what: what})
		}
	}
	g.b = opened(t, g.d, g.o)
	g.p.has(t, g.b)
	if n, _ := g.b.Leaves(); n > 20 {
		t.Errorf("%d leaves", n)
	}
}

// P20.1: a tree of just 2000 leaves may be, one of more not; where some are dropped others may come.
func TestMostLeaves(t *testing.T) {
	g := began(t, 1<<22, options(1, 0)[2])
	ids := func(from, n int) []book.Update {
		var l []book.Update
		for i := range n {
			l = append(l, book.Update{Id: fmt.Sprint("a", from+i), Value: strings.Repeat("v", 200)})
		}
		return l
	}
	publish := func(l []book.Update, want api.Errno) {
		t.Helper()
		c, e := g.b.Publish(l)
		is(t, "Publish", e, want)
		if want != api.OK {
			nothing(t, c)
			return
		}
		ahead := g.p.copy()
		changes(t, c, g.p.publish(l), ahead, g.p)
	}
	for i := range 31 {
		c, e := g.b.Publish(ids(32*i, 32))
		is(t, "Publish", e, api.OK)
		if g.p.publish(ids(32*i, 32)); i == 30 && c.Top != g.p.top() {
			t.Fatal("top")
		}
	}
	publish(ids(992, 9), api.ErrBig)
	publish(ids(0, 9), api.ErrBig)
	publish(ids(984, 8), api.OK)
	g.p.sums(t, g.b)
	publish(ids(0, 1), api.ErrBig)
	publish(ids(5000, 1), api.ErrBig)
	publish([]book.Update{{"A", ""}}, api.ErrForm)
	g.p.sums(t, g.b)
	publish(nil, api.OK)
	for _, what := range []string{"Bury", "Drop"} {
		g.calls(t, call{what: what})
	}
	publish(ids(984, 9), api.ErrBig)
	publish(ids(984, 8), api.OK)
	g.p.sums(t, g.b)
	for _, n := range []int{0, 1, 2} {
		g.p.answers(t, g.b, g.p.leaves(), "a990", n)
	}
}

// P20.1: behind epoch 2^30 none is published, as no leaf may be of a later one.
func TestLastEpoch(t *testing.T) {
	o := options(1, 0)[1]
	g := began(t, 1<<20, o)
	for range 2 {
		g.publishes(t, "x", "a", "b")
	}
	g.calls(t, call{what: "Bury"})
	g.publishes(t, "y", "a")
	// The epoch stands in the store under a key of its own.
	s, e := store.Open(g.d, o.Store)
	is(t, "store.Open", e, api.OK)
	is(t, "Write", s.Write([]api.Entry{{Key: "e", Value: "\x04\x3f\xff\xff\xff"}}), api.OK)
	g.b, g.p.epoch = opened(t, g.d, o), 1<<30-1
	g.p.has(t, g.b)
	g.publishes(t, "z", "b", "c")
	if g.b.Epoch() != 1<<30 {
		t.Fatalf("epoch %d", g.b.Epoch())
	}
	for range 2 {
		for _, l := range [][]book.Update{nil, {{"a", "x"}}} {
			c, e := g.b.Publish(l)
			is(t, "Publish", e, api.ErrEpoch)
			nothing(t, c)
		}
		_, e = g.b.Publish([]book.Update{{"A", "x"}})
		is(t, "Publish", e, api.ErrForm)
		for _, f := range []func() (book.Change, api.Errno){g.b.Bury, g.b.Drop} {
			c, e := f()
			is(t, "Bury, Drop", e, api.ErrEpoch)
			nothing(t, c)
		}
		g.p.has(t, g.b)
		g.b = opened(t, g.d, o)
	}
}

// P20.1: unlike keys are unlike labels and sums, all else is the same.
func TestKeys(t *testing.T) {
	var tops []api.Label
	for _, key := range []string{"k", "l", "k\x01"} {
		o := options(1, 0)[1]
		o.Key = key
		b := opened(t, disk.New(1<<20), o)
		c, e := b.Publish([]book.Update{{"ann", "x"}})
		is(t, "Publish", e, api.OK)
		seed, _ := label.Seed(key, "ann", 1)
		there, _ := label.Seed(key, "ann", 0)
		l := []node.Leaf{{Label: label.Fresh(seed), Value: label.Commit("x", label.Nonce(key, seed)), At: 1}, {Label: label.Fresh(there), Value: label.Mark(), At: 1}}
		if c.Top != item(l).Sum || slices.Contains(tops, c.Top) {
			t.Errorf("%q: %x", key, c.Top)
		}
		tops = append(tops, c.Top)
		s, _ := step.Read(c.Step)
		is(t, "Check", step.Check(node.Empty(), c.Top, s), api.OK)
	}
}

// K3, K4: the same calls are answered in the same way, and nothing of an answer is the directory's own.
func TestSame(t *testing.T) {
	a, b := began(t, 1<<20, options(1, 0)[1]), began(t, 1<<20, options(1, 0)[1])
	r := dice(7)
	for range 40 {
		c := r.call()
		x, e := a.do(c)
		y, f := b.do(c)
		if e != f || x.Epoch != y.Epoch || x.Top != y.Top || x.Step != y.Step || !slices.Equal(x.Seeds, y.Seeds) {
			t.Fatalf("%s: %v, %d, %v, %d", c.what, x, e, y, f)
		}
		for i := range x.Seeds {
			x.Seeds[i] = api.Label{}
		}
		a.p, _ = a.behind(c)
	}
	a.p.has(t, a.b)
}
