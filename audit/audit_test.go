package audit_test

import (
	"math"
	"slices"
	"testing"

	"chirograph/api"
	"chirograph/audit"
	"chirograph/book"
	"chirograph/label"
	"chirograph/node"
	"chirograph/step"
)

// seed is number n of those of the trees here.
func seed(n int) api.Label {
	return api.Label{byte(n), 31: 7}
}

// fresh and stale are leaves of seed n.
func fresh(n int, value api.Label, at int) node.Leaf {
	return node.Leaf{Label: label.Fresh(seed(n)), Value: value, At: at}
}

func stale(n int, value api.Label, at int) node.Leaf {
	return node.Leaf{Label: label.Stale(seed(n)), Value: value, At: at}
}

// linked is a change from leaves to what they are without some, with others.
func linked(t *testing.T, kind, epoch int, seeds []api.Label, l []node.Leaf, gone []api.Label, come ...node.Leaf) audit.Link {
	t.Helper()
	s, e := step.Make(l, gone, come)
	is(t, "Make", e, api.OK)
	return spelt(t, kind, epoch, seeds, sum(behind(l, s)), s)
}

// spelt is a change of this step.
func spelt(t *testing.T, kind, epoch int, seeds []api.Label, to api.Label, s step.Step) audit.Link {
	t.Helper()
	text, e := step.Bytes(s)
	is(t, "Bytes", e, api.OK)
	return audit.Link{Kind: kind, Change: book.Change{Epoch: epoch, Top: to, Seeds: seeds, Step: text}}
}

// refuses asks that an auditor doesn't take a link, and stays as it was.
func refuses(t *testing.T, what string, a audit.Auditor, l audit.Link, want api.Errno) {
	t.Helper()
	if z, e := a.Next(l); z != a || e != want {
		t.Errorf("%s: %v, %d instead of %v, %d", what, z, e, a, want)
	}
}

// takes asks that an auditor takes a link.
func takes(t *testing.T, what string, a audit.Auditor, l audit.Link) {
	t.Helper()
	want := audit.Auditor{Epoch: l.Change.Epoch, Top: l.Change.Top, Retain: a.Retain, Grace: a.Grace}
	if z, e := a.Next(l); z != want || e != api.OK {
		t.Errorf("%s: %v, %d instead of %v", what, z, e, want)
	}
}

// P22.1: for how long versions, and tombs, may be asked to be kept.
func TestNew(t *testing.T) {
	for _, x := range []struct {
		retain, grace int
		want          bool
	}{
		{1, 0, true}, {1 << 20, 1 << 20, true}, {1, 1 << 20, true}, {7, 3, true},
		{0, 0, false}, {-1, 0, false}, {1, -1, false}, {1<<20 + 1, 0, false}, {1, 1<<20 + 1, false}, {0, -1, false}, {math.MaxInt, 0, false}, {1, math.MaxInt, false}, {math.MinInt, math.MinInt, false},
	} {
		a, e := audit.New(x.retain, x.grace)
		want := audit.Auditor{Top: node.Empty(), Retain: x.retain, Grace: x.grace}
		if !x.want {
			want = audit.Auditor{}
		}
		if a != want || (e == api.OK) != x.want || !x.want && e != api.ErrArg {
			t.Errorf("New(%d, %d): %v, %d", x.retain, x.grace, a, e)
		}
	}
}

// P22.1, P22.3: Next's errors, in their order: of several faults the first one is told.
func TestNextOrder(t *testing.T) {
	l := []node.Leaf{fresh(1, api.Label{1}, 1), stale(1, label.Mark(), 2)}
	right := linked(t, audit.Publish, 4, nil, l, nil, fresh(2, api.Label{2}, 4))
	a := audit.Auditor{Epoch: 3, Top: sum(l), Retain: 1}
	takes(t, "right", a, right)
	faults := []struct {
		spoil func(a *audit.Auditor, l *audit.Link)
		e     api.Errno
	}{
		{func(a *audit.Auditor, l *audit.Link) { l.Kind = 4 }, api.ErrArg},
		{func(a *audit.Auditor, l *audit.Link) { a.Epoch = -1 }, api.ErrEpoch},
		{func(a *audit.Auditor, l *audit.Link) { l.Change.Epoch++ }, api.ErrEpoch},
		{func(a *audit.Auditor, l *audit.Link) { l.Change.Step = "" }, api.ErrEnd},
		{func(a *audit.Auditor, l *audit.Link) { a.Top[0] ^= 1 }, api.ErrProof},
		{func(a *audit.Auditor, l *audit.Link) { l.Change.Top[31] ^= 1 }, api.ErrProof},
		{func(a *audit.Auditor, l *audit.Link) { l.Change.Seeds = []api.Label{seed(2)} }, api.ErrProof},
	}
	for chosen := 1; chosen < 1<<len(faults); chosen++ {
		b, x, want := a, right, api.OK
		for i, f := range slices.Backward(faults) {
			if chosen>>i&1 == 1 {
				f.spoil(&b, &x)
				want = f.e
			}
		}
		refuses(t, "faults", b, x, want)
	}
	for _, kind := range []int{0, -1, 4, math.MaxInt, math.MinInt} {
		x := right
		x.Kind = kind
		refuses(t, "kind", a, x, api.ErrArg)
	}
}

// P22.1: which epochs follow one another.
func TestNextEpochs(t *testing.T) {
	const last = 1 << 30
	for _, x := range []struct {
		ahead, behind int
		want          api.Errno
	}{
		{0, 1, api.OK}, {7, 8, api.OK}, {last - 1, last, api.OK},
		{0, 0, api.ErrEpoch}, {0, 2, api.ErrEpoch}, {1, 0, api.ErrEpoch}, {-1, 0, api.ErrEpoch}, {-2, -1, api.ErrEpoch}, {last, last + 1, api.ErrEpoch}, {last + 1, last + 2, api.ErrEpoch}, {last - 1, last + 1, api.ErrEpoch},
		{math.MaxInt, math.MinInt, api.ErrEpoch}, {math.MinInt, math.MinInt + 1, api.ErrEpoch}, {0, math.MinInt, api.ErrEpoch},
	} {
		a := audit.Auditor{Epoch: x.ahead, Top: node.Empty()}
		l := linked(t, audit.Publish, x.behind, nil, nil, nil)
		if x.want == api.OK {
			takes(t, "epoch", a, l)
		} else {
			refuses(t, "epoch", a, l, x.want)
		}
	}
}

// P22.2: the errors of steps that aren't in form, and of such as lead from elsewhere, or elsewhere.
func TestNextSteps(t *testing.T) {
	x, y := node.Leaf{Label: api.Label{0x20}, At: 1}, node.Leaf{Label: api.Label{0x80}, At: 2}
	a := audit.Auditor{Epoch: 1, Top: sum([]node.Leaf{x}), Retain: 1}
	right := linked(t, audit.Publish, 2, nil, []node.Leaf{x}, nil, y)
	takes(t, "right", a, right)
	for text, want := range map[string]api.Errno{
		"": api.ErrEnd, right.Change.Step[:40]: api.ErrEnd, right.Change.Step + "\x00": api.ErrForm, "\x09": api.ErrText, "\x02\x0f\xff": api.ErrBig, string(make([]byte, api.MaxText+1)): api.ErrBig,
	} {
		l := right
		l.Change.Step = text
		refuses(t, "bytes", a, l, want)
	}
	two := []node.Leaf{x, y}
	for _, s := range []struct {
		s    step.Step
		to   api.Label
		want api.Errno
	}{
		{step.Step{Same: []node.Item{x.Item()}, New: []node.Leaf{y}}, sum(two), api.ErrForm},
		{step.Step{Same: []node.Item{{}}, Old: []node.Leaf{x}}, sum(two), api.ErrForm},
		{step.Step{Old: []node.Leaf{x}, New: []node.Leaf{y, y}}, sum(two), api.ErrForm},
		{step.Step{Old: []node.Leaf{y}, New: two}, sum(two), api.ErrProof}, {step.Step{New: two}, sum(two), api.ErrProof},
		{step.Step{Old: []node.Leaf{x}, New: []node.Leaf{x}}, sum(two), api.ErrProof}, {step.Step{Old: []node.Leaf{x}, New: two}, node.Empty(), api.ErrProof}, {step.Step{Old: []node.Leaf{x}, New: two}, sum([]node.Leaf{x}), api.ErrProof},
	} {
		refuses(t, "step", a, spelt(t, audit.Publish, 2, nil, s.to, s.s), s.want)
	}
	// As a step of seeds each of these leads nowhere.
	right.Kind = audit.Bury
	refuses(t, "Bury", a, right, api.ErrProof)
	right.Kind = audit.Drop
	refuses(t, "Drop", a, right, api.ErrProof)
}

// P22.1, P22.3: a publishing adds leaves of its own epoch, and nothing else.
func TestPublish(t *testing.T) {
	l := []node.Leaf{fresh(1, api.Label{1}, 1), stale(1, label.Mark(), 2), fresh(2, api.Label{5}, 3)}
	a := audit.Auditor{Epoch: 3, Top: sum(l), Retain: 1}
	first := []api.Label{l[0].Label}
	changed := l[0]
	changed.Value = api.Label{9}
	now := l[0]
	now.At = 4
	takes(t, "nothing", a, linked(t, audit.Publish, 4, nil, l, nil))
	takes(t, "no seeds", a, linked(t, audit.Publish, 4, []api.Label{}, l, nil))
	takes(t, "more", a, linked(t, audit.Publish, 4, nil, l, nil, fresh(3, api.Label{2}, 4), stale(2, label.Mark(), 4)))
	takes(t, "the same again", a, linked(t, audit.Publish, 4, nil, l, first, l[0], fresh(3, api.Label{2}, 4)))
	refuses(t, "seeds", a, linked(t, audit.Publish, 4, []api.Label{seed(3)}, l, nil, fresh(3, api.Label{2}, 4)), api.ErrProof)
	refuses(t, "nothing, with seeds", a, linked(t, audit.Publish, 4, []api.Label{{}}, l, nil), api.ErrProof)
	refuses(t, "one gone", a, linked(t, audit.Publish, 4, nil, l, first), api.ErrProof)
	refuses(t, "another value", a, linked(t, audit.Publish, 4, nil, l, first, changed), api.ErrProof)
	refuses(t, "another epoch", a, linked(t, audit.Publish, 4, nil, l, first, now), api.ErrProof)
	for _, at := range []int{0, 3, 5} {
		refuses(t, "of another epoch", a, linked(t, audit.Publish, 4, nil, l, nil, fresh(3, api.Label{2}, at)), api.ErrProof)
	}
}

// P22.3: how old a version must be that is buried, or dropped: the auditor's Retain and Grace, and the change's epoch, say it.
func TestAges(t *testing.T) {
	own := []api.Label{label.Fresh(seed(1)), label.Stale(seed(1))}
	for _, retain := range []int{0, 1, 2, 5, 1 << 20} {
		for _, grace := range []int{0, 1, 3, 1 << 20} {
			for _, age := range []int{0, 1, retain - 1, retain, retain + 1, retain + grace - 1, retain + grace, retain + grace + 1} {
				const past = 3
				epoch := past + max(0, age)
				kept := []node.Leaf{fresh(1, api.Label{1}, 1), stale(1, label.Mark(), past), fresh(2, api.Label{5}, 2)}
				tomb := slices.Clone(kept)
				tomb[0].Value = label.Tomb()
				bury := linked(t, audit.Bury, epoch, []api.Label{seed(1)}, kept, own, tomb[:2]...)
				drop := linked(t, audit.Drop, epoch, []api.Label{seed(1)}, tomb, own)
				a := audit.Auditor{Epoch: epoch - 1, Top: sum(kept), Retain: retain, Grace: grace}
				b := a
				b.Top = sum(tomb)
				if age >= retain {
					takes(t, "Bury", a, bury)
				} else if age >= 0 {
					refuses(t, "Bury", a, bury, api.ErrProof)
				}
				if age >= retain+grace {
					takes(t, "Drop", b, drop)
				} else if age >= 0 {
					refuses(t, "Drop", b, drop, api.ErrProof)
				}
			}
		}
	}
}

// P22.3: what is buried, and dropped, is told by its seeds, each once, and nothing beside it; a version that has no mark stays.
func TestSeeds(t *testing.T) {
	l := []node.Leaf{fresh(1, api.Label{1}, 1), stale(1, label.Mark(), 2), fresh(2, label.Tomb(), 1), stale(2, label.Mark(), 2), fresh(3, api.Label{3}, 2), fresh(4, label.Tomb(), 2), stale(4, api.Label{4}, 2), fresh(5, api.Label{5}, 2), stale(5, api.Label{5}, 2)}
	a := audit.Auditor{Epoch: 8, Top: sum(l), Retain: 1}
	labels := func(n ...int) []api.Label {
		var own []api.Label
		for _, i := range n {
			for _, x := range []api.Label{label.Fresh(seed(i)), label.Stale(seed(i))} {
				if _, there := find(l, x); there {
					own = append(own, x)
				}
			}
		}
		return own
	}
	seeds := func(n ...int) []api.Label {
		var own []api.Label
		for _, i := range n {
			own = append(own, seed(i))
		}
		return own
	}
	tomb := fresh(1, label.Tomb(), 1)
	takes(t, "Bury", a, linked(t, audit.Bury, 9, seeds(1), l, labels(1), tomb, l[1]))
	takes(t, "Drop", a, linked(t, audit.Drop, 9, seeds(2), l, labels(2)))
	takes(t, "Bury nothing", a, linked(t, audit.Bury, 9, nil, l, nil))
	takes(t, "Drop nothing", a, linked(t, audit.Drop, 9, nil, l, nil))
	for what, x := range map[string]audit.Link{
		"Bury without seeds":         linked(t, audit.Bury, 9, nil, l, labels(1), tomb, l[1]),
		"Bury with seeds twice":      linked(t, audit.Bury, 9, seeds(1, 1), l, labels(1), tomb, l[1]),
		"Bury with another seed":     linked(t, audit.Bury, 9, seeds(2), l, labels(1), tomb, l[1]),
		"Bury with one more":         linked(t, audit.Bury, 9, seeds(1, 3), l, labels(1), tomb, l[1]),
		"Bury, and one goes":         linked(t, audit.Bury, 9, seeds(1), l, append(labels(1), l[4].Label), tomb, l[1]),
		"Bury, and one comes":        linked(t, audit.Bury, 9, seeds(1), l, labels(1), tomb, l[1], fresh(9, api.Label{}, 9)),
		"Bury, of another epoch":     linked(t, audit.Bury, 9, seeds(1), l, labels(1), fresh(1, label.Tomb(), 9), l[1]),
		"Bury, no tomb":              linked(t, audit.Bury, 9, seeds(1), l, labels(1), fresh(1, api.Label{6}, 1), l[1]),
		"Bury, and the mark goes":    linked(t, audit.Bury, 9, seeds(1), l, labels(1), tomb),
		"Bury again":                 linked(t, audit.Bury, 9, seeds(2), l, labels(2), l[2], l[3]),
		"Bury what isn't superseded": linked(t, audit.Bury, 9, seeds(3), l, labels(3), fresh(3, label.Tomb(), 2)),
		"Bury, no mark":              linked(t, audit.Bury, 9, seeds(5), l, labels(5), fresh(5, label.Tomb(), 2), l[8]),
		"Bury as Drop":               linked(t, audit.Drop, 9, seeds(1), l, labels(1), tomb, l[1]),
		"Drop as Bury":               linked(t, audit.Bury, 9, seeds(2), l, labels(2)),
		"Bury as Publish":            linked(t, audit.Publish, 9, seeds(1), l, labels(1), tomb, l[1]),
		"Drop as Publish":            linked(t, audit.Publish, 9, nil, l, labels(2)),
		"Drop without seeds":         linked(t, audit.Drop, 9, nil, l, labels(2)),
		"Drop with seeds twice":      linked(t, audit.Drop, 9, seeds(2, 2), l, labels(2)),
		"Drop with another seed":     linked(t, audit.Drop, 9, seeds(1), l, labels(2)),
		"Drop what isn't buried":     linked(t, audit.Drop, 9, seeds(1), l, labels(1)),
		"Drop half":                  linked(t, audit.Drop, 9, seeds(2), l, labels(2)[:1]),
		"Drop, and one more":         linked(t, audit.Drop, 9, seeds(2), l, append(labels(2), l[4].Label)),
		"Drop what isn't superseded": linked(t, audit.Drop, 9, seeds(3), l, labels(3)),
		"Drop, no mark":              linked(t, audit.Drop, 9, seeds(4), l, labels(4)),
		"Drop, and one comes":        linked(t, audit.Drop, 9, seeds(2), l, labels(2), fresh(9, api.Label{}, 9)),
	} {
		refuses(t, what, a, x, api.ErrProof)
	}
	many := linked(t, audit.Bury, 9, slices.Repeat(seeds(1), 1<<16), l, labels(1), tomb, l[1])
	refuses(t, "many seeds", a, many, api.ErrProof)
}

// P22.1: All stops at the first error, tells its place, and the auditor ahead of it.
func TestAll(t *testing.T) {
	d := begun(t, "k", 1, 0)
	for range 3 {
		d.publish(t, "ann", "bob")
	}
	d.bury(t)
	d.publish(t, "bob")
	a := auditor(t, 1, 0)
	for n := range len(d.links) + 1 {
		want := audit.Auditor{Epoch: n, Top: sum(d.ages[n]), Retain: 1}
		if z, at, e := a.All(d.links[:n]); z != want || at != n || e != api.OK {
			t.Errorf("%d links: %v, %d, %d", n, z, at, e)
		}
		if n == len(d.links) {
			break
		}
		for _, x := range []struct {
			spoil func(l *audit.Link)
			want  api.Errno
		}{
			{func(l *audit.Link) { l.Kind = 0 }, api.ErrArg}, {func(l *audit.Link) { l.Change.Epoch = 9 }, api.ErrEpoch}, {func(l *audit.Link) { l.Change.Step = "" }, api.ErrEnd}, {func(l *audit.Link) { l.Change.Top[3] ^= 4 }, api.ErrProof},
		} {
			l := slices.Clone(d.links)
			x.spoil(&l[n])
			kept := slices.Clone(l)
			if z, at, e := a.All(l); z != want || at != n || e != x.want {
				t.Errorf("at %d: %v, %d, %d instead of %d", n, z, at, e, x.want)
			}
			if !slices.EqualFunc(l, kept, alike) {
				t.Error("changed")
			}
		}
		// One is left out, or comes twice.
		if z, at, e := a.All(slices.Delete(slices.Clone(d.links), n, n+1)); n < 4 && (z != want || at != n || e != api.ErrEpoch) {
			t.Errorf("without %d: %v, %d, %d", n, z, at, e)
		}
		if _, at, e := a.All(slices.Insert(slices.Clone(d.links), n, d.links[n])); at != n+1 || e != api.ErrEpoch {
			t.Errorf("twice %d: %d, %d", n, at, e)
		}
	}
}

// alike are two links that are one.
func alike(a, b audit.Link) bool {
	c, d := a.Change, b.Change
	return a.Kind == b.Kind && c.Epoch == d.Epoch && c.Top == d.Top && c.Step == d.Step && slices.Equal(c.Seeds, d.Seeds)
}

// P22.2: Fate: what the seeds of links say, whatever else they say.
func TestFate(t *testing.T) {
	link := func(kind int, n ...int) audit.Link {
		l := audit.Link{Kind: kind}
		for _, i := range n {
			l.Change.Seeds = append(l.Change.Seeds, seed(i))
		}
		return l
	}
	value, mark, other := fresh(1, api.Label{1}, 3), stale(1, label.Mark(), 4), node.Leaf{Label: seed(1), At: 5}
	tomb := fresh(1, label.Tomb(), 3)
	for i, x := range []struct {
		l     node.Leaf
		links []audit.Link
		want  node.Leaf
		there bool
	}{
		{value, nil, value, true}, {value, []audit.Link{{}}, value, true}, {node.Leaf{}, nil, node.Leaf{}, true}, {node.Leaf{At: -1}, []audit.Link{link(audit.Bury, 1)}, node.Leaf{At: -1}, true},
		{value, []audit.Link{link(audit.Bury, 1)}, tomb, true}, {value, []audit.Link{link(audit.Bury, 2, 3, 1)}, tomb, true}, {value, []audit.Link{link(audit.Bury, 1, 1), link(audit.Bury, 1)}, tomb, true}, {value, []audit.Link{link(audit.Bury), link(audit.Bury, 2)}, value, true},
		{mark, []audit.Link{link(audit.Bury, 1)}, mark, true}, {other, []audit.Link{link(audit.Bury, 1), link(audit.Drop, 1)}, other, true},
		{value, []audit.Link{link(audit.Drop, 1)}, node.Leaf{}, false}, {mark, []audit.Link{link(audit.Drop, 1)}, node.Leaf{}, false}, {mark, []audit.Link{link(audit.Drop, 3, 2), link(audit.Drop, 2, 1)}, node.Leaf{}, false}, {value, []audit.Link{link(audit.Drop), link(audit.Drop, 2, 3)}, value, true},
		{value, []audit.Link{link(audit.Bury, 1), link(audit.Publish), link(audit.Drop, 1)}, node.Leaf{}, false}, {value, []audit.Link{link(audit.Drop, 1), link(audit.Publish), link(audit.Bury, 1)}, node.Leaf{}, false}, {tomb, []audit.Link{link(audit.Drop, 2), link(audit.Bury, 1)}, tomb, true},
		{value, []audit.Link{link(audit.Publish, 1)}, value, true}, {value, []audit.Link{link(0, 1), link(4, 1), link(-1, 1)}, value, true}, {mark, []audit.Link{link(audit.Publish, 1), link(4, 1)}, mark, true},
	} {
		if l, there := audit.Fate(x.l, x.links); l != x.want || there != x.there {
			t.Errorf("%d: %v, %v", i, l, there)
		}
	}
}

// P22.2: behind links with which an auditor is content each leaf is what Fate says.
func TestFates(t *testing.T) {
	count := map[string]int{}
	for n := range 16 {
		r := dice(n)
		d := begun(t, "secret", 1+r.roll(2), r.roll(2))
		for range 20 {
			d.goes(t, &r)
		}
		for range 40 {
			from := r.roll(len(d.ages))
			to := from + r.roll(len(d.ages)-from)
			for _, x := range d.ages[from] {
				want, stays := find(d.ages[to], x.Label)
				l, there := audit.Fate(x, d.links[from:to])
				if l != want || there != stays {
					t.Fatalf("%v, %v instead of %v, %v", l, there, want, stays)
				}
				switch {
				case !there:
					count["gone"]++
				case l != x:
					count["tomb"]++
				default:
					count["stays"]++
				}
			}
		}
	}
	if count["gone"] < 100 || count["tomb"] < 100 || count["stays"] < 100 {
		t.Errorf("%v", count)
	}
}

// wood is a tree of leaves of seeds 0 to 5, mostly superseded, some buried, and of others.
func wood(r *dice) []node.Leaf {
	var l []node.Leaf
	for n := range 6 {
		value, mark := api.Label{byte(n)}, label.Mark()
		if r.roll(2) == 0 {
			value = label.Tomb()
		}
		if r.roll(12) == 0 {
			mark = api.Label{3}
		}
		if r.roll(12) > 0 {
			l = append(l, fresh(n, value, r.roll(5)))
		}
		if r.roll(6) > 0 {
			l = append(l, stale(n, mark, r.roll(10)))
		}
	}
	for n := range r.roll(4) {
		l = append(l, node.Leaf{Label: api.Label{byte(r.roll(256)), byte(n)}, Value: label.Mark(), At: r.roll(9)})
	}
	return l
}

// bent is a link of any kind, from leaves, that is made as it should be, or nearly so.
func bent(t *testing.T, r *dice, l []node.Leaf, epoch int) (audit.Link, []node.Leaf) {
	t.Helper()
	kind := 1 + r.roll(3)
	var seeds, gone []api.Label
	var come []node.Leaf
	if kind == audit.Publish {
		for range r.roll(3) {
			x := node.Leaf{Label: api.Label{byte(r.roll(256)), byte(r.roll(256)), 9}, Value: api.Label{8}, At: epoch - r.roll(8)/7}
			if _, twice := find(append(l, come...), x.Label); !twice {
				come = append(come, x)
			}
		}
	} else {
		from := r.roll(6)
		for n := from; n <= min(5, from+r.roll(2)); n++ {
			seeds = append(seeds, seed(n))
			if x, there := find(l, label.Fresh(seed(n))); there {
				gone = append(gone, x.Label)
				x.Value = label.Tomb()
				come = append(come, x)
			}
			if x, there := find(l, label.Stale(seed(n))); there {
				gone, come = append(gone, x.Label), append(come, x)
			}
		}
		if kind == audit.Drop {
			come = nil
		}
	}
	switch r.roll(12) {
	case 0:
		seeds = append(seeds, seed(r.roll(6)))
	case 1:
		if len(l) > 0 {
			gone = append(gone, l[r.roll(len(l))].Label)
			come = slices.DeleteFunc(come, func(x node.Leaf) bool { return x.Label == gone[len(gone)-1] })
		}
	case 2:
		if len(come) > 0 {
			come[r.roll(len(come))].At ^= 1
		}
	case 3:
		if len(come) > 0 {
			come[r.roll(len(come))].Value = api.Label{7}
		}
	case 4:
		kind = 1 + r.roll(3)
	}
	s, e := step.Make(l, gone, come)
	is(t, "Make", e, api.OK)
	return spelt(t, kind, epoch, seeds, sum(behind(l, s)), s), behind(l, s)
}

// lawful asks that a link with which an auditor is content did nothing that isn't allowed: P22.3, by the leaves ahead of it and behind it.
func lawful(t *testing.T, a audit.Auditor, l audit.Link, ahead, behind []node.Leaf) {
	t.Helper()
	age := a.Retain
	if l.Kind == audit.Drop {
		age += a.Grace
	}
	// old: was the version of this seed superseded so many epochs ago?
	old := func(seed api.Label) bool {
		mark, there := find(ahead, label.Stale(seed))
		return there && mark.Value == label.Mark() && l.Change.Epoch-mark.At >= age
	}
	for _, x := range ahead {
		y, stays := find(behind, x.Label)
		if stays && y == x {
			continue
		}
		allowed := slices.ContainsFunc(l.Change.Seeds, func(seed api.Label) bool {
			switch {
			case l.Kind == audit.Bury:
				return old(seed) && x.Label == label.Fresh(seed) && x.Value != label.Tomb() && stays && y.Value == label.Tomb() && y.At == x.At
			case l.Kind == audit.Drop:
				tomb, there := find(ahead, label.Fresh(seed))
				return old(seed) && there && tomb.Value == label.Tomb() && !stays && (x == tomb || x.Label == label.Stale(seed))
			}
			return false
		})
		if !allowed {
			t.Fatalf("content with %v, by which %v becomes %v, %v", l, x, y, stays)
		}
	}
	for _, y := range behind {
		if _, there := find(ahead, y.Label); !there && (l.Kind != audit.Publish || y.At != l.Change.Epoch) {
			t.Fatalf("content with %v, by which %v comes", l, y)
		}
	}
}

// P22.2, P22.3: whatever is done to any tree: with which of it an auditor is content, and that then each leaf has its fate.
func TestAnyLinks(t *testing.T) {
	content, refused := map[int]int{}, map[int]int{}
	for n := range 4000 {
		r := dice(n)
		ahead := wood(&r)
		a := audit.Auditor{Epoch: 8 + r.roll(3), Top: sum(ahead), Retain: r.roll(4), Grace: r.roll(3)}
		l, behind := bent(t, &r, ahead, a.Epoch+1)
		z, e := a.Next(l)
		if e != api.OK {
			is(t, "Next", e, api.ErrProof)
			refused[l.Kind]++
			continue
		}
		content[l.Kind]++
		if z.Top != sum(behind) {
			t.Fatal("another top")
		}
		lawful(t, a, l, ahead, behind)
		for _, x := range ahead {
			want, stays := find(behind, x.Label)
			if y, there := audit.Fate(x, []audit.Link{l}); y != want || there != stays {
				t.Fatalf("%v: %v, %v instead of %v, %v", x, y, there, want, stays)
			}
			told, real, is := audit.Extract([]audit.Link{l}, x.Label, proved(t, ahead, x.Label), proved(t, behind, x.Label))
			if told != "" || real != "" || is {
				t.Fatalf("%v: %q, %q, %v", x, told, real, is)
			}
		}
	}
	for _, kind := range []int{audit.Publish, audit.Bury, audit.Drop} {
		if content[kind] < 50 || refused[kind] < 50 {
			t.Errorf("kind %d: %d, %d", kind, content[kind], refused[kind])
		}
	}
}
