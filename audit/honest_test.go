package audit_test

import (
	"fmt"
	"slices"
	"testing"

	"chirograph/api"
	"chirograph/audit"
	"chirograph/bits"
	"chirograph/book"
	"chirograph/disk"
	"chirograph/label"
	"chirograph/level"
	"chirograph/node"
	"chirograph/patch"
	"chirograph/proof"
	"chirograph/step"
	"chirograph/store"
)

// dice are numbers of all kinds, other ones for each seed.
type dice uint32

func (d *dice) roll(n int) int {
	*d = *d*1664525 + 1013904223
	return int(*d>>8) % n
}

func is(t *testing.T, what string, e, want api.Errno) {
	t.Helper()
	if e != want {
		t.Fatalf("%s: %d instead of %d", what, e, want)
	}
}

// auditor is one of these, who has seen nothing as yet.
func auditor(t *testing.T, retain, grace int) audit.Auditor {
	t.Helper()
	a, e := audit.New(retain, grace)
	is(t, "New", e, api.OK)
	return a
}

// deeds is a directory that is honest, what it did, and the leaves that there were at each epoch, from 0 on.
type deeds struct {
	*book.Book
	retain, grace int
	links         []audit.Link
	ages          [][]node.Leaf
}

func begun(t *testing.T, key string, retain, grace int) *deeds {
	t.Helper()
	b, e := book.Open(disk.New(1<<20), book.Options{Store: store.Options{Mem: 1 << 20, Block: 1 << 14, Table: 1 << 15, Limits: level.Limits{Count: 100, Size: 1 << 30}}, Key: key, Retain: retain, Grace: grace})
	is(t, "Open", e, api.OK)
	return &deeds{b, retain, grace, nil, [][]node.Leaf{nil}}
}

// did is a change that was made, if it was one.
func (d *deeds) did(t *testing.T, kind int, c book.Change, e api.Errno) {
	t.Helper()
	if kind != audit.Publish && e == api.ErrNone {
		return
	}
	is(t, "a change", e, api.OK)
	s, e := step.Read(c.Step)
	is(t, "Read", e, api.OK)
	l := behind(d.ages[len(d.ages)-1], s)
	if sum(l) != d.Top() {
		t.Fatal("these aren't its leaves")
	}
	d.links, d.ages = append(d.links, audit.Link{Kind: kind, Change: c}), append(d.ages, l)
}

func (d *deeds) publish(t *testing.T, ids ...string) {
	t.Helper()
	var l []book.Update
	for _, id := range ids {
		l = append(l, book.Update{Id: id, Value: fmt.Sprint(id, d.Epoch())})
	}
	c, e := d.Publish(l)
	d.did(t, audit.Publish, c, e)
}

func (d *deeds) bury(t *testing.T) {
	t.Helper()
	c, e := d.Bury()
	d.did(t, audit.Bury, c, e)
}

func (d *deeds) drop(t *testing.T) {
	t.Helper()
	c, e := d.Drop()
	d.did(t, audit.Drop, c, e)
}

// goes on by one call of any kind.
func (d *deeds) goes(t *testing.T, r *dice) {
	t.Helper()
	switch r.roll(7) {
	case 0, 1:
		d.bury(t)
	case 2:
		d.drop(t)
	default:
		ids := []string{"ann", "ann.b", "bob", "яя", "z"}
		from := r.roll(len(ids) + 1)
		d.publish(t, ids[from:min(from+1+r.roll(3), len(ids))]...)
	}
}

// behind are leaves behind a step.
func behind(l []node.Leaf, s step.Step) []node.Leaf {
	var all []node.Leaf
	for _, x := range l {
		if !slices.Contains(s.Old, x) {
			all = append(all, x)
		}
	}
	return append(all, s.New...)
}

// sum is that of the tree of leaves.
func sum(l []node.Leaf) api.Label {
	top, e := patch.Top(patch.Of(l))
	if e != api.OK {
		panic(e)
	}
	return top
}

// find is the leaf of a label.
func find(l []node.Leaf, x api.Label) (node.Leaf, bool) {
	for _, y := range l {
		if y.Label == x {
			return y, true
		}
	}
	return node.Leaf{}, false
}

// tree is a node, what is summed of it, and what is below it: two sides, from a bit on.
type tree struct {
	item  node.Item
	text  string
	bit   int
	sides []*tree
}

// grown is the tree of leaves, one of them at least, that are alike up to a bit: each bit behind is asked of each leaf.
func grown(l []node.Leaf, bit int) *tree {
	if len(l) == 1 {
		return &tree{item: l[0].Item(), text: node.LeafBytes(l[0])}
	}
	var sides [2][]node.Leaf
	for _, x := range l {
		side := &sides[bits.Bit(x.Label, bit)]
		*side = append(*side, x)
	}
	for i, side := range sides {
		if len(side) == 0 {
			return grown(sides[1-i], bit+1)
		}
	}
	left, right := grown(sides[0], bit+1), grown(sides[1], bit+1)
	inner := node.Inner{Left: left.item, Right: right.item}
	return &tree{inner.Item(), node.InnerBytes(inner), bit, []*tree{left, right}}
}

// item is that of the tree of leaves, one of them at least.
func item(l []node.Leaf) node.Item {
	return grown(l, 0).item
}

// way is what is summed of the nodes of the way towards a label in the tree of leaves, the top first.
func way(l []node.Leaf, x api.Label) []string {
	if len(l) == 0 {
		return []string{"\x12"}
	}
	p := grown(l, 0)
	texts := []string{p.text}
	for p.sides != nil && bits.Common(p.item.Prefix.Bits, x) >= p.bit {
		p = p.sides[bits.Bit(x, p.bit)]
		texts = append(texts, p.text)
	}
	return texts
}

// proved is the proof of a label in the tree of leaves.
func proved(t *testing.T, l []node.Leaf, x api.Label) proof.Proof {
	t.Helper()
	p, e := proof.Make(l, x)
	is(t, "Make", e, api.OK)
	return p
}

// youngest is how many epochs ahead of a change the last of its versions was superseded; of none a great many.
func youngest(l []node.Leaf, c book.Change) int {
	age := 1 << 30
	for _, seed := range c.Seeds {
		mark, _ := find(l, label.Stale(seed))
		age = min(age, c.Epoch-mark.At)
	}
	return age
}

// bears is at which of the links an auditor is to be discontent, as they were made too early for it.
func (d *deeds) bears(a audit.Auditor) int {
	for i, l := range d.links {
		age := youngest(d.ages[i], l.Change)
		if l.Kind == audit.Bury && age < a.Retain || l.Kind == audit.Drop && age < a.Retain+a.Grace {
			return i
		}
	}
	return len(d.links)
}

// P22.1, P22.3: who asks for no more than what a directory keeps is content with all of it, who asks for more with just what is ahead of what was done too early.
func TestHonest(t *testing.T) {
	kinds, early := map[int]int{}, map[int]int{}
	for seed := range 24 {
		r := dice(seed)
		d := begun(t, "secret", 1+r.roll(3), r.roll(3))
		for range 24 {
			d.goes(t, &r)
		}
		for _, l := range d.links {
			kinds[l.Kind]++
		}
		for retain := 1; retain < 6; retain++ {
			for grace := range 5 {
				a := auditor(t, retain, grace)
				want := d.bears(a)
				z, n, e := a.All(d.links)
				if retain <= d.retain && retain+grace <= d.retain+d.grace && want < len(d.links) {
					t.Fatalf("too early: %d", want)
				}
				if n != want || (e == api.OK) != (want == len(d.links)) || e != api.OK && e != api.ErrProof {
					t.Fatalf("%d, %d instead of %d", n, e, want)
				}
				if e != api.OK {
					early[d.links[n].Kind]++
				}
				if z != (audit.Auditor{Epoch: n, Top: sum(d.ages[n]), Retain: retain, Grace: grace}) {
					t.Fatalf("%v at %d", z, n)
				}
			}
		}
	}
	if kinds[audit.Publish] < 50 || kinds[audit.Bury] < 50 || kinds[audit.Drop] < 20 || early[audit.Bury] < 20 || early[audit.Drop] < 20 {
		t.Errorf("%v, %v", kinds, early)
	}
}

// P22.1: the most that is buried and dropped at once; an auditor who comes late goes on from where it is told of.
func TestForty(t *testing.T) {
	d := begun(t, "k", 1, 0)
	var ids []string
	for i := range 32 {
		ids = append(ids, fmt.Sprint("a", i))
	}
	d.publish(t)
	for range 3 {
		d.publish(t, ids...)
	}
	for range 2 {
		d.bury(t)
		d.drop(t)
	}
	if len(d.links) != 8 || len(d.links[4].Change.Seeds) != 40 || len(d.links[7].Change.Seeds) != 24 {
		t.Fatalf("%d links", len(d.links))
	}
	z, n, e := auditor(t, 1, 0).All(d.links)
	if n != 8 || e != api.OK || z.Top != d.Top() || z.Epoch != 8 {
		t.Errorf("%v, %d, %d", z, n, e)
	}
	late := audit.Auditor{Epoch: 4, Top: sum(d.ages[4]), Retain: 1}
	if y, n, e := late.All(d.links[4:]); y != z || n != 4 || e != api.OK {
		t.Errorf("%v, %d, %d", y, n, e)
	}
}

// P22.1, P22.3: the chapter's example.
func TestExample(t *testing.T) {
	d := begun(t, "k", 1, 0)
	d.publish(t, "ann")
	d.publish(t, "ann")
	d.bury(t)
	d.drop(t)
	z, n, e := auditor(t, 1, 0).All(d.links)
	if n != 4 || e != api.OK || z != (audit.Auditor{Epoch: 4, Top: d.Top(), Retain: 1}) {
		t.Errorf("%v, %d, %d", z, n, e)
	}
	z, n, e = auditor(t, 2, 0).All(d.links)
	if n != 2 || e != api.ErrProof || z != (audit.Auditor{Epoch: 2, Top: sum(d.ages[2]), Retain: 2}) {
		t.Errorf("%v, %d, %d", z, n, e)
	}
	if [...]int{audit.Publish, audit.Bury, audit.Drop} != [...]int{1, 2, 3} {
		t.Error("constants")
	}
}
