package audit_test

import (
	"slices"
	"testing"

	"chirograph/api"
	"chirograph/audit"
	"chirograph/bits"
	"chirograph/label"
	"chirograph/node"
	"chirograph/proof"
	"chirograph/step"
)

// extracts asks what Extract answers: no two unlike texts of one sum are known, so it never finds any.
func extracts(t *testing.T, what string, links []audit.Link, x api.Label, ahead, behind proof.Proof, told, real string) {
	t.Helper()
	paths := [2][]node.Item{slices.Clone(ahead.Path), slices.Clone(behind.Path)}
	if a, b, is := audit.Extract(links, x, ahead, behind); a != told || b != real || is {
		t.Fatalf("%s: %q, %q, %v instead of %q, %q", what, a, b, is, told, real)
	}
	if !slices.Equal(ahead.Path, paths[0]) || !slices.Equal(behind.Path, paths[1]) {
		t.Fatalf("%s: changed", what)
	}
}

// unlike are the first two texts of two ways that are unlike.
func unlike(told, real []string) (string, string) {
	for i := range min(len(told), len(real)) {
		if told[i] != real[i] {
			return told[i], real[i]
		}
	}
	return "", ""
}

// stays: is a leaf of this label there at each epoch from one to another?
func (d *deeds) stays(x api.Label, from, to int) bool {
	for _, l := range d.ages[from : to+1] {
		if _, there := find(l, x); !there {
			return false
		}
	}
	return true
}

// P22.2: the way of each leaf is carried from any epoch to any later one: the proof behind is alike all over; that of another epoch is told beside the real one.
func TestExtractHonest(t *testing.T) {
	count := map[string]int{}
	for n := range 12 {
		r := dice(n)
		d := begun(t, "secret", 1+r.roll(2), r.roll(2))
		for range 16 {
			d.goes(t, &r)
		}
		for range 20 {
			from := r.roll(len(d.ages))
			to := from + r.roll(len(d.ages)-from)
			links := d.links[from:to]
			for _, x := range d.ages[from] {
				ahead := proved(t, d.ages[from], x.Label)
				ahead.Path = append(make([]node.Item, 0, len(ahead.Path)+9), ahead.Path...)
				extracts(t, "honest", links, x.Label, ahead, proved(t, d.ages[to], x.Label), "", "")
				other := d.ages[r.roll(len(d.ages))]
				told, real := "", ""
				if d.stays(x.Label, from, to) {
					told, real = unlike(way(other, x.Label), way(d.ages[to], x.Label))
					count["stays"]++
				} else {
					count["gone"]++
				}
				extracts(t, "another epoch's", links, x.Label, ahead, proved(t, other, x.Label), told, real)
				if told != "" {
					count["told"]++
				}
			}
		}
	}
	if count["stays"] < 500 || count["gone"] < 100 || count["told"] < 300 {
		t.Errorf("%v", count)
	}
}

// alone: does a link tell of the tree ahead of it but one part?
func alone(t *testing.T, l audit.Link) bool {
	t.Helper()
	s, e := step.Read(l.Change.Step)
	is(t, "Read", e, api.OK)
	return len(s.Same) == 1 && len(s.Old) == 0
}

// P22.2: a way that isn't of the tree ahead of a step: the step's top is told, and the way's, as it was carried so far.
func TestExtractElsewhere(t *testing.T) {
	count := 0
	for n := range 100 {
		r := dice(n)
		d, other := begun(t, "secret", 1, 0), begun(t, "k", 1, 0)
		for _, b := range []*deeds{d, other} {
			b.publish(t, "ann", "bob")
			for range 8 {
				b.goes(t, &r)
			}
		}
		from := 1 + r.roll(len(d.links))
		at := from + r.roll(len(d.ages)-from)
		instead := r.roll(len(other.links))
		if alone(t, other.links[instead]) {
			continue
		}
		links := slices.Concat(d.links[from:at], other.links[instead:])
		for _, x := range d.ages[from] {
			told, real := "", ""
			if d.stays(x.Label, from, at) {
				told, real = way(other.ages[instead], x.Label)[0], way(d.ages[at], x.Label)[0]
				count++
			}
			extracts(t, "elsewhere", links, x.Label, proved(t, d.ages[from], x.Label), proved(t, d.ages[at], x.Label), told, real)
		}
	}
	if count < 200 {
		t.Errorf("%d", count)
	}
}

// P22.2: without links the two proofs are held against one another, behind's told, ahead's real.
func TestExtractNoLinks(t *testing.T) {
	l := []node.Leaf{{Label: api.Label{0x20}, At: 1}, {Label: api.Label{0x30}, At: 2}, {Label: api.Label{0xf0}, At: 3}}
	x := l[0].Label
	ahead := proved(t, l, x)
	for i := range 4 {
		other := l[i:]
		told, real := unlike(way(other, x), way(l, x))
		extracts(t, "no links", nil, x, ahead, proved(t, other, x), told, real)
	}
	extracts(t, "an empty tree", nil, x, ahead, proof.Proof{}, "\x12", way(l, x)[0])
	extracts(t, "one leaf", nil, x, proved(t, l[:1], x), proved(t, l[1:2], x), node.LeafBytes(l[1]), node.LeafBytes(l[0]))
}

// P22.2: an item of Same that is alone says nothing but its sum: an auditor takes any prefix of it, so the way is carried whatever it says.
func TestExtractAlone(t *testing.T) {
	l := []node.Leaf{fresh(1, api.Label{1}, 1), stale(1, label.Mark(), 1), fresh(2, label.Tomb(), 1)}
	for _, tree := range [][]node.Leaf{l, l[:1]} {
		top := item(tree)
		a := audit.Auditor{Epoch: 1, Top: top.Sum, Retain: 1}
		for _, p := range []bits.Prefix{top.Prefix, {}, bits.Cut(l[1].Label, 256), bits.Cut(api.Label{0xff, 0xff}, 9)} {
			for kind := audit.Publish; kind <= audit.Drop; kind++ {
				link := spelt(t, kind, 2, nil, top.Sum, step.Step{Same: []node.Item{{Prefix: p, Sum: top.Sum, At: 77}}})
				takes(t, "alone", a, link)
				grown := linked(t, audit.Publish, 3, nil, tree, nil, fresh(9, api.Label{}, 3))
				for _, links := range [][]audit.Link{{link}, {link, link}, {link, grown}} {
					behind := tree
					if len(links) == 2 && alike(links[1], grown) {
						behind = append(slices.Clone(tree), fresh(9, api.Label{}, 3))
					}
					for _, x := range tree {
						ahead := proved(t, tree, x.Label)
						extracts(t, "alone", links, x.Label, ahead, proved(t, behind, x.Label), "", "")
						extracts(t, "another tree", links, x.Label, ahead, proof.Proof{}, "\x12", way(behind, x.Label)[0])
					}
				}
			}
		}
	}
}

// P22.2: trees of all kinds ahead of a step: without leaves, of a leaf, of more, of parts.
func TestExtractTops(t *testing.T) {
	a, b, c := node.Leaf{Label: api.Label{0x20}, At: 1}, node.Leaf{Label: api.Label{0x30}, At: 2}, node.Leaf{Label: api.Label{0xf0}, At: 3}
	turned := a
	turned.Value[5] = 1
	two := item([]node.Leaf{a, b})
	text := func(l ...node.Leaf) string { return way(l, a.Label)[0] }
	all := []node.Leaf{a, b, c}
	for i, x := range []struct {
		s          step.Step
		ahead      []node.Leaf
		told, real string
	}{
		{step.Step{}, all, "\x12", text(all...)}, {step.Step{}, all[:1], "\x12", text(a)}, {step.Step{New: all}, all, "\x12", text(all...)},
		{step.Step{Old: all[:1]}, all, text(a), text(all...)}, {step.Step{Old: all[1:2]}, all[:1], text(b), text(a)}, {step.Step{Old: []node.Leaf{turned}}, all[:1], text(turned), text(a)},
		{step.Step{Old: all}, all[:1], text(all...), text(a)}, {step.Step{Same: []node.Item{two}, Old: all[2:]}, []node.Leaf{turned, b, c}, text(all...), text(turned, b, c)},
		{step.Step{Same: []node.Item{a.Item(), b.Item()}}, all, text(a, b), text(all...)}, {step.Step{Same: []node.Item{two}, Old: all[2:], New: all[2:]}, all[:2], text(all...), text(a, b)},
		// In any order.
		{step.Step{Same: []node.Item{c.Item(), a.Item()}, Old: all[1:2]}, all[:2], text(all...), text(a, b)}, {step.Step{Old: []node.Leaf{c, b, a}}, all[:2], text(all...), text(a, b)},
	} {
		link := spelt(t, audit.Publish, 1, nil, api.Label{}, x.s)
		for _, behind := range []proof.Proof{{}, proved(t, all, a.Label), {End: 9}} {
			extracts(t, string(rune('a'+i)), []audit.Link{link, {}}, a.Label, proved(t, x.ahead, a.Label), behind, x.told, x.real)
		}
	}
}

// P22.2: a leaf that is dropped, and published again by who isn't honest: nothing is told of it.
func TestExtractAgain(t *testing.T) {
	l := []node.Leaf{fresh(1, label.Tomb(), 1), stale(1, label.Mark(), 2), fresh(2, api.Label{2}, 2)}
	own := []api.Label{l[0].Label, l[1].Label}
	again := fresh(1, api.Label{9}, 6)
	drop := linked(t, audit.Drop, 5, []api.Label{seed(1)}, l, own)
	publish := linked(t, audit.Publish, 6, nil, l[2:], nil, again)
	a := audit.Auditor{Epoch: 4, Top: sum(l), Retain: 1}
	if _, _, e := a.All([]audit.Link{drop, publish}); e != api.OK {
		t.Fatalf("All: %d", e)
	}
	behind := []node.Leaf{again, l[2]}
	for _, x := range own {
		for _, links := range [][]audit.Link{{drop}, {drop, publish}, {drop, {}}} {
			if y, there := audit.Fate(l[0], links); there {
				t.Errorf("Fate: %v", y)
			}
			extracts(t, "dropped", links, x, proved(t, l, x), proved(t, behind, x), "", "")
			extracts(t, "dropped", links, x, proved(t, l, x), proof.Proof{}, "", "")
		}
	}
	// What wasn't dropped stays.
	x := l[2].Label
	extracts(t, "another one", []audit.Link{drop, publish}, x, proved(t, l, x), proved(t, behind, x), "", "")
	extracts(t, "another one", []audit.Link{drop, publish}, x, proved(t, l, x), proved(t, l, x), way(l, x)[0], way(behind, x)[0])
}

// P22.2: a tree than which none is deeper: beside each leaf's way, above parts that stay, others are put, and taken.
func TestExtractDeep(t *testing.T) {
	l := []node.Leaf{{Label: api.Label{5, 31: 0x5e}, At: 1}}
	for i := range 256 {
		x := l[0]
		x.Label[i/8] ^= 0x80 >> (i % 8)
		x.At = i % 7
		l = append(l, x)
	}
	for _, n := range []int{1, 2, 8, 100, 255, 256} {
		less := slices.Delete(slices.Clone(l), n, n+1)
		links := []audit.Link{linked(t, audit.Drop, 8, nil, l, []api.Label{l[n].Label}), linked(t, audit.Publish, 9, nil, less, nil, l[n]), linked(t, audit.Publish, 10, nil, l, nil)}
		for _, m := range []int{0, 1, 2, 9, 99, 101, 254, 256} {
			if m == n {
				continue
			}
			x := l[m].Label
			for i, tree := range [][]node.Leaf{l, less, l, l} {
				extracts(t, "deep", links[:i], x, proved(t, l, x), proved(t, tree, x), "", "")
				extracts(t, "deep", links[:i], x, proved(t, l, x), proof.Proof{}, "\x12", way(tree, x)[0])
			}
		}
		extracts(t, "gone", links, l[n].Label, proved(t, l, l[n].Label), proof.Proof{}, "", "")
	}
}

// P22.2: where something isn't in form nothing is told, though the proof behind is another tree's.
func TestExtractForms(t *testing.T) {
	a, b := node.Leaf{Label: api.Label{0x20}, At: 1}, node.Leaf{Label: api.Label{0x80}, At: 2}
	l := []node.Leaf{a, b}
	x := a.Label
	right, behind := proved(t, l, x), proved(t, l[1:], x)
	stay := linked(t, audit.Publish, 3, nil, l, nil, node.Leaf{Label: api.Label{0xc0}, At: 3})
	told, real := way(l[1:], x)[0], way(append(slices.Clone(l), node.Leaf{Label: api.Label{0xc0}, At: 3}), x)[0]
	extracts(t, "right", []audit.Link{stay}, x, right, behind, told, real)

	bad := right
	bad.Path = []node.Item{{At: -1}}
	// A way that ends elsewhere, though what its end doesn't use says the leaf.
	elsewhere := proved(t, []node.Leaf{b, {Label: api.Label{0xff}}}, x)
	elsewhere.Leaf = a
	for _, p := range []proof.Proof{
		{}, {End: 3, Leaf: a}, {End: proof.Pair, Leaf: a, Path: right.Path}, {Leaf: a}, proved(t, l, b.Label), proved(t, []node.Leaf{b, {Label: api.Label{0x21}}}, x), elsewhere,
		bad, {End: proof.Leaf, Leaf: node.Leaf{Label: x, At: -1}}, {End: proof.Leaf, Leaf: a, Path: make([]node.Item, 257)}, {End: proof.Leaf, Leaf: a, Path: []node.Item{a.Item()}},
	} {
		extracts(t, "ahead", []audit.Link{stay}, x, p, behind, "", "")
		extracts(t, "ahead, without links", nil, x, p, behind, "", "")
	}
	extracts(t, "another label", []audit.Link{stay}, b.Label, right, behind, "", "")
	for _, p := range []proof.Proof{bad, {End: 3}, {End: -1}, {Path: right.Path}, {End: proof.Pair}, {End: proof.Leaf, Leaf: node.Leaf{At: -1}}, {End: proof.Leaf, Path: make([]node.Item, 257)}} {
		extracts(t, "behind", []audit.Link{stay}, x, right, p, "", "")
		extracts(t, "behind, without links", nil, x, right, p, "", "")
	}
	for _, text := range []string{"", "\x09", stay.Change.Step[:20], stay.Change.Step + "\x00", string(make([]byte, api.MaxText+1))} {
		extracts(t, "bytes", []audit.Link{{Kind: audit.Publish}, stay}, x, right, behind, "", "")
		link := stay
		link.Change.Step = text
		extracts(t, "bytes", []audit.Link{link}, x, right, behind, "", "")
		extracts(t, "bytes", []audit.Link{linked(t, audit.Publish, 3, nil, l, nil), link}, x, right, behind, "", "")
	}
	for _, s := range []step.Step{
		{Same: []node.Item{item(l)}, New: l[:1]}, {Same: []node.Item{a.Item()}, New: l[1:]}, {Same: []node.Item{item(l), a.Item()}}, {Same: []node.Item{item(l)}, Old: l[:1]},
		{Old: l, New: []node.Leaf{a, b, b}}, {Old: []node.Leaf{a, a, b}, New: l}, {Same: []node.Item{b.Item()}, Old: l[:1], New: l}, {Same: []node.Item{b.Item()}, Old: l, New: l[:1]},
	} {
		extracts(t, "step", []audit.Link{spelt(t, audit.Publish, 3, nil, sum(l), s)}, x, right, behind, "", "")
	}
}

// altered is a proof of which something was changed.
func altered(r *dice, p proof.Proof) proof.Proof {
	p.Path = slices.Clone(p.Path)
	switch n := r.roll(6); {
	case n == 0:
		p.Leaf.Value[3] ^= 1
	case n == 1:
		p.Leaf.At ^= 1
	case n == 2 && len(p.Path) > 0:
		p.Path[r.roll(len(p.Path))].Sum[9] ^= 1
	case n == 3 && len(p.Path) > 0:
		p.Path = p.Path[1:]
	case n == 4 && len(p.Path) > 0:
		p.Path[r.roll(len(p.Path))].At ^= 1
	}
	return p
}

// P22.2: of links with which an auditor is content, and any proof that is taken behind them: it says what Fate says.
func TestSure(t *testing.T) {
	taken, refused := 0, 0
	for n := range 300 {
		r := dice(n)
		trees := [][]node.Leaf{wood(&r)}
		a := audit.Auditor{Epoch: 8, Top: sum(trees[0]), Retain: r.roll(3), Grace: r.roll(2)}
		z := a
		var links []audit.Link
		for range 12 {
			l, behind := bent(t, &r, trees[len(trees)-1], z.Epoch+1)
			if next, e := z.Next(l); e == api.OK {
				z, links, trees = next, append(links, l), append(trees, behind)
			}
		}
		for _, x := range trees[0] {
			ahead := proved(t, trees[0], x.Label)
			fate, there := audit.Fate(x, links)
			for range 4 {
				p := altered(&r, proved(t, trees[len(trees)-1-r.roll(2)%len(trees)], x.Label))
				says, is, e := proof.Check(z.Top, x.Label, p)
				if e != api.OK {
					refused++
					continue
				}
				taken++
				if there && (!is || says != fate) || !there && is {
					t.Fatalf("%v: %v, %v instead of %v, %v", x, says, is, fate, there)
				}
				extracts(t, "taken", links, x.Label, ahead, p, "", "")
			}
		}
	}
	if taken < 1000 || refused < 1000 {
		t.Errorf("%d taken, %d refused", taken, refused)
	}
}

// spoilt is a step of which something was changed, so that mostly it isn't of the tree any more.
func spoilt(r *dice, s step.Step) step.Step {
	s = step.Step{Same: slices.Clone(s.Same), Old: slices.Clone(s.Old), New: slices.Clone(s.New)}
	for range r.roll(3) {
		switch n := r.roll(9); {
		case n == 0:
			s.New = append(s.New, node.Leaf{Label: api.Label{byte(r.roll(256)), 2}})
		case n == 1 && len(s.New) > 0:
			s.New = slices.Delete(s.New, 0, 1)
		case n == 2 && len(s.New) > 0:
			s.New[r.roll(len(s.New))].Value[3] ^= 1
		case n == 3 && len(s.Old) > 0:
			s.Old[r.roll(len(s.Old))].At ^= 1
		case n == 4 && len(s.Old) > 0:
			s.Old = slices.Delete(s.Old, 0, 1)
		case n == 5 && len(s.Old) > 0:
			s.Same, s.Old = append(s.Same, s.Old[0].Item()), s.Old[1:]
		case n == 6 && len(s.Same) > 0:
			x := &s.Same[r.roll(len(s.Same))]
			x.Prefix = bits.Cut(x.Prefix.Bits, x.Prefix.Len-1)
		case n == 7 && len(s.Same) > 0:
			s.Same = slices.Delete(s.Same, 0, 1)
		case n == 8 && len(s.Same) > 0:
			s.Same, s.Old, s.New = s.Same[:1], nil, s.New[:min(len(s.New), r.roll(2))]
		}
	}
	return s
}

// top is what is summed of the top of the tree ahead of a step that is in form, if that is told.
func top(s step.Step) (string, bool) {
	items := slices.Clone(s.Same)
	for _, l := range s.Old {
		items = append(items, l.Item())
	}
	switch len(items) {
	case 0:
		return "\x12", true
	case 1:
		if len(s.Same) == 1 {
			return "", false
		}
		return node.LeafBytes(s.Old[0]), true
	}
	return node.InnerBytes(halves(items)), true
}

// halves are the two sides of the tree of items.
func halves(l []node.Item) node.Inner {
	for bit := range 256 {
		var sides [2][]node.Item
		for _, x := range l {
			side := &sides[bits.Bit(x.Prefix.Bits, bit)]
			*side = append(*side, x)
		}
		if len(sides[0]) > 0 && len(sides[1]) > 0 {
			both := [2]node.Item{sides[0][0], sides[1][0]}
			for i, side := range sides {
				if len(side) > 1 {
					both[i] = halves(side).Item()
				}
			}
			return node.Inner{Left: both[0], Right: both[1]}
		}
	}
	panic("one over another")
}

// meant is what Extract is to tell by the chapter's words, where x stands in the tree of these leaves; and why.
func meant(steps []step.Step, x api.Label, l []node.Leaf, behind proof.Proof, other []node.Leaf) (string, string, string) {
	for _, s := range steps {
		if e := step.Check(api.Label{}, api.Label{}, s); e != api.ErrProof {
			return "", "", "not in form"
		}
		known, is := top(s)
		if !is {
			continue
		}
		if real := way(l, x)[0]; known != real {
			return known, real, "elsewhere"
		}
		// What is summed to one sum is one tree.
		l = slices.DeleteFunc(slices.Clone(l), func(y node.Leaf) bool { return slices.Contains(s.Old, y) })
		l = append(l, s.New...)
		if _, there := find(l, x); !there {
			return "", "", "gone"
		}
	}
	if _, e := behind.Nodes(x); e != api.OK {
		return "", "", "behind isn't in form"
	}
	told, real := unlike(way(other, x), way(l, x))
	if told == "" {
		return "", "", "alike"
	}
	return told, real, "behind"
}

// P22.2: any links, such with which an auditor is content, and such as lead anywhere.
func TestExtractAny(t *testing.T) {
	count := map[string]int{}
	for n := range 3000 {
		r := dice(n)
		l := wood(&r)
		if len(l) == 0 {
			continue
		}
		trees := [][]node.Leaf{l}
		var links []audit.Link
		var steps []step.Step
		for range 1 + r.roll(3) {
			ahead := trees[len(trees)-1]
			if r.roll(9) == 0 {
				ahead = trees[0]
			}
			link, behind := bent(t, &r, ahead, 9)
			s, e := step.Read(link.Change.Step)
			is(t, "Read", e, api.OK)
			s = spoilt(&r, s)
			links, steps, trees = append(links, spelt(t, link.Kind, 9, nil, link.Change.Top, s)), append(steps, s), append(trees, behind)
		}
		x := l[r.roll(len(l))].Label
		other := trees[len(trees)-1-r.roll(2)]
		p := proved(t, other, x)
		if r.roll(9) == 0 {
			p.Path = append(p.Path, node.Item{At: -1})
		}
		told, real, why := meant(steps, x, l, p, other)
		count[why]++
		extracts(t, why, links, x, proved(t, l, x), p, told, real)
	}
	for _, why := range []string{"not in form", "elsewhere", "gone", "alike", "behind", "behind isn't in form"} {
		if count[why] < 50 {
			t.Errorf("%s: %d", why, count[why])
		}
	}
}
