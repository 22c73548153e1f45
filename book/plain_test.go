package book_test

import (
	"maps"
	"slices"
	"testing"

	"chirograph/api"
	"chirograph/bits"
	"chirograph/book"
	"chirograph/disk"
	"chirograph/label"
	"chirograph/level"
	"chirograph/node"
	"chirograph/proof"
	"chirograph/step"
	"chirograph/store"
)

// dice are numbers of all kinds, other ones for each seed.
type dice uint32

func (d *dice) roll(n int) int {
	*d = *d*1664525 + 1013904223
	return int(*d>>8) % n
}

// The key of all directories here, but where it is said.
const key = "secret"

// options are of stores that flush at each batch, now and then, never.
func options(retain, grace int) []book.Options {
	var l []book.Options
	for _, s := range []store.Options{
		{Mem: 1, Block: 1, Table: 1, Limits: level.Limits{Count: 2, Size: 100}},
		{Mem: 700, Block: 200, Table: 500, Limits: level.Limits{Count: 3, Size: 1500}},
		{Mem: 1 << 20, Block: 1 << 14, Table: 1 << 15, Limits: level.Limits{Count: 100, Size: 1 << 30}},
	} {
		l = append(l, book.Options{Store: s, Key: key, Retain: retain, Grace: grace})
	}
	return l
}

func opened(t *testing.T, d *disk.Disk, o book.Options) *book.Book {
	t.Helper()
	b, e := book.Open(d, o)
	if e != api.OK {
		t.Fatalf("Open: %d", e)
	}
	return b
}

func is(t *testing.T, what string, e, want api.Errno) {
	t.Helper()
	if e != want {
		t.Fatalf("%s: %d instead of %d", what, e, want)
	}
}

// value is a version: its value, which epoch published it, which one superseded it (0: none), its state.
type value struct {
	text            string
	at, past, state int
}

// plain is a directory as plain lists of versions, from 1 on.
type plain struct {
	epoch int
	ids   map[string][]value
}

func (p plain) copy() plain {
	q := plain{p.epoch, map[string][]value{}}
	for id, l := range p.ids {
		q.ids[id] = slices.Clone(l)
	}
	return q
}

func seedOf(id string, n int) api.Label {
	seed, e := label.Seed(key, id, n)
	if e != api.OK {
		panic(id)
	}
	return seed
}

func commit(seed api.Label, value string) api.Label {
	return label.Commit(value, label.Nonce(key, seed))
}

// leaves are those of the tree, by the chapter's words.
func (p plain) leaves() []node.Leaf {
	var all []node.Leaf
	for id, l := range p.ids {
		all = append(all, node.Leaf{Label: label.Fresh(seedOf(id, 0)), Value: label.Mark(), At: l[0].at})
		for i, v := range l {
			seed := seedOf(id, i+1)
			fresh := node.Leaf{Label: label.Fresh(seed), Value: commit(seed, v.text), At: v.at}
			switch v.state {
			case book.Absent:
				continue
			case book.Buried:
				fresh.Value = label.Tomb()
			}
			all = append(all, fresh)
			if v.past > 0 {
				all = append(all, node.Leaf{Label: label.Stale(seed), Value: label.Mark(), At: v.past})
			}
		}
	}
	return slices.SortedFunc(slices.Values(all), func(a, b node.Leaf) int { return bits.Order(a.Label, b.Label) })
}

// item is that of the tree of leaves, one of them at least: each bit is asked of each leaf.
func item(l []node.Leaf) node.Item {
	if len(l) == 1 {
		return l[0].Item()
	}
	for n := range 256 {
		var sides [2][]node.Leaf
		for _, x := range l {
			bit := bits.Bit(x.Label, n)
			sides[bit] = append(sides[bit], x)
		}
		if len(sides[0]) > 0 && len(sides[1]) > 0 {
			return node.Inner{Left: item(sides[0]), Right: item(sides[1])}.Item()
		}
	}
	return node.Item{}
}

func (p plain) top() api.Label {
	l := p.leaves()
	if len(l) == 0 {
		return node.Empty()
	}
	return item(l).Sum
}

// publish: an epoch with these updates; what it is to tell.
func (p *plain) publish(l []book.Update) told {
	p.epoch++
	w := told{kind: "Publish"}
	for _, u := range l {
		n := len(p.ids[u.Id])
		mark := label.Fresh(seedOf(u.Id, 0))
		if n > 0 {
			p.ids[u.Id][n-1].past = p.epoch
			mark = label.Stale(seedOf(u.Id, n))
		}
		p.ids[u.Id] = append(p.ids[u.Id], value{text: u.Value, at: p.epoch, state: book.Present})
		seed := seedOf(u.Id, n+1)
		w.fresh = append(w.fresh, node.Leaf{Label: mark, Value: label.Mark(), At: p.epoch}, node.Leaf{Label: label.Fresh(seed), Value: commit(seed, u.Value), At: p.epoch})
	}
	return w
}

// retire: an epoch in which versions of one state, superseded so many epochs ahead, come into the next one; what it is to tell.
func (p *plain) retire(age, from, to int) told {
	w := told{kind: "Bury", age: age}
	if to == book.Absent {
		w.kind = "Drop"
	}
	for _, id := range slices.Sorted(maps.Keys(p.ids)) {
		for i := range p.ids[id] {
			v := &p.ids[id][i]
			if len(w.seeds) == 40 || v.state != from || v.past == 0 || p.epoch+1-v.past < age {
				continue
			}
			v.state = to
			seed := seedOf(id, i+1)
			w.seeds = append(w.seeds, seed)
			w.gone = append(w.gone, label.Stale(seed), label.Fresh(seed))
			if to == book.Buried {
				w.fresh = append(w.fresh, node.Leaf{Label: label.Fresh(seed), Value: label.Tomb(), At: v.at}, node.Leaf{Label: label.Stale(seed), Value: label.Mark(), At: v.past})
			}
		}
	}
	if len(w.seeds) > 0 {
		p.epoch++
	}
	return w
}

func (p *plain) bury(o book.Options) told {
	return p.retire(o.Retain, book.Present, book.Buried)
}

func (p *plain) drop(o book.Options) told {
	return p.retire(o.Retain+o.Grace, book.Buried, book.Absent)
}

// told is what an epoch is to tell: of which seeds, and which leaves go and come.
type told struct {
	kind  string
	age   int
	seeds []api.Label
	gone  []api.Label
	fresh []node.Leaf
}

// changes asks what a change tells: of just these leaves, from one list of versions to another.
func changes(t *testing.T, c book.Change, w told, ahead, behind plain) {
	t.Helper()
	s, e := step.Make(ahead.leaves(), w.gone, w.fresh)
	is(t, "step.Make", e, api.OK)
	text, e := step.Bytes(s)
	is(t, "step.Bytes", e, api.OK)
	if c.Epoch != ahead.epoch+1 || c.Epoch != behind.epoch || c.Top != behind.top() || !slices.Equal(c.Seeds, w.seeds) || c.Step != text {
		t.Fatalf("%s: %v instead of %d, %x, %x, %q", w.kind, c, behind.epoch, behind.top(), w.seeds, text)
	}
	s, e = step.Read(c.Step)
	is(t, "step.Read", e, api.OK)
	is(t, "step.Check", step.Check(ahead.top(), c.Top, s), api.OK)
	says := step.Inserts(s, c.Epoch)
	switch w.kind {
	case "Bury":
		says = step.Buries(s, c.Seeds, c.Epoch, w.age)
	case "Drop":
		says = step.Drops(s, c.Seeds, c.Epoch, w.age)
	}
	if !says {
		t.Fatalf("%s: its step says no", w.kind)
	}
}

// state is what is to be answered of a version; of none the zero value.
func (p plain) state(id string, n int) value {
	l := p.ids[id]
	switch {
	case n == 0 && len(l) > 0:
		return value{state: book.Present}
	case n == 0 || n > len(l) || l[n-1].state == book.Absent:
		return value{}
	case l[n-1].state == book.Buried:
		return value{state: book.Buried, at: l[n-1].at}
	}
	return value{text: l[n-1].text, state: book.Present, at: l[n-1].at}
}

// answer is what is to be answered of a version, where these are the tree's leaves.
func (p plain) answer(t *testing.T, leaves []node.Leaf, id string, n int) book.Answer {
	t.Helper()
	v, seed := p.state(id, n), seedOf(id, n)
	return book.Answer{Id: id, Version: n, State: v.state, Value: v.text, At: v.at, Epoch: p.epoch, Fresh: spelt(t, leaves, label.Fresh(seed)), Stale: spelt(t, leaves, label.Stale(seed))}
}

// spelt are a proof's bytes.
func spelt(t *testing.T, leaves []node.Leaf, l api.Label) string {
	t.Helper()
	p, e := proof.Make(leaves, l)
	is(t, "proof.Make", e, api.OK)
	s, e := proof.Bytes(p)
	is(t, "proof.Bytes", e, api.OK)
	return s
}

// proves asks what the proofs of an answer say.
func (p plain) proves(t *testing.T, top api.Label, a book.Answer) {
	t.Helper()
	seed, v := seedOf(a.Id, a.Version), p.state(a.Id, a.Version)
	fresh, here := leaf(t, top, label.Fresh(seed), a.Fresh)
	if here != (v.state != book.Absent) {
		t.Fatalf("%s, %d: is its leaf there: %v", a.Id, a.Version, here)
	}
	stale, past := leaf(t, top, label.Stale(seed), a.Stale)
	if a.Version == 0 {
		if past || here && (fresh.Value != label.Mark() || fresh.At != p.ids[a.Id][0].at) {
			t.Fatalf("%s: %v, %v", a.Id, fresh, stale)
		}
		return
	}
	if !here {
		if past {
			t.Fatalf("%s, %d: %v", a.Id, a.Version, stale)
		}
		return
	}
	want := commit(seed, a.Value)
	if v.state == book.Buried {
		want = label.Tomb()
	}
	since := p.ids[a.Id][a.Version-1].past
	if fresh.Value != want || fresh.At != a.At || past != (since > 0) || past && (stale.Value != label.Mark() || stale.At != since) {
		t.Fatalf("%s, %d: %v, %v", a.Id, a.Version, fresh, stale)
	}
}

// leaf is what a proof says of a label.
func leaf(t *testing.T, top, l api.Label, text string) (node.Leaf, bool) {
	t.Helper()
	p, e := proof.Read(text)
	is(t, "proof.Read", e, api.OK)
	x, there, e := proof.Check(top, l, p)
	is(t, "proof.Check", e, api.OK)
	return x, there
}

// answers asks for a version, and for its proofs.
func (p plain) answers(t *testing.T, b *book.Book, leaves []node.Leaf, id string, n int) {
	t.Helper()
	a, e := b.Version(id, n)
	if want := p.answer(t, leaves, id, n); e != api.OK || a != want {
		t.Fatalf("Version(%s, %d): %v, %d instead of %v", id, n, a, e, want)
	}
	p.proves(t, b.Top(), a)
}

// sums asks for what is told of all of a directory.
func (p plain) sums(t *testing.T, b *book.Book) {
	t.Helper()
	n, e := b.Leaves()
	if b.Epoch() != p.epoch || b.Top() != p.top() || e != api.OK || n != len(p.leaves()) {
		t.Fatalf("Epoch %d instead of %d, Top %x instead of %x, Leaves %d, %d instead of %d", b.Epoch(), p.epoch, b.Top(), p.top(), n, e, len(p.leaves()))
	}
}

// versions asks for what is told of all of a directory, and for all its versions.
func (p plain) versions(t *testing.T, b *book.Book) {
	t.Helper()
	p.sums(t, b)
	leaves := p.leaves()
	for id, l := range p.ids {
		for n := range len(l) + 1 {
			p.answers(t, b, leaves, id, n)
		}
	}
}

// has asks all that a directory of these versions answers, of these identities and its own.
func (p plain) has(t *testing.T, b *book.Book, others ...string) {
	t.Helper()
	p.sums(t, b)
	leaves := p.leaves()
	for _, id := range append(slices.Sorted(maps.Keys(p.ids)), others...) {
		n := len(p.ids[id])
		for i := range n + 2 {
			p.answers(t, b, leaves, id, i)
		}
		a, e := b.Lookup(id)
		if want := p.answer(t, leaves, id, n); e != api.OK || a != want {
			t.Fatalf("Lookup(%s): %v, %d instead of %v", id, a, e, want)
		}
		h, e := b.History(id)
		is(t, "History", e, api.OK)
		if want := p.history(t, leaves, id); !slices.Equal(h, want) {
			t.Fatalf("History(%s): %v instead of %v", id, h, want)
		}
	}
}

// history is what is to be answered of an identity: from the latest version down to one that isn't there, or to 0.
func (p plain) history(t *testing.T, leaves []node.Leaf, id string) []book.Answer {
	t.Helper()
	var l []book.Answer
	for n := len(p.ids[id]); n >= 0; n-- {
		l = append(l, p.answer(t, leaves, id, n))
		if p.state(id, n).state == book.Absent {
			break
		}
	}
	return l
}
