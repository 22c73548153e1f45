package step_test

import (
	"math"
	"slices"
	"testing"

	"chirograph/api"
	"chirograph/bits"
	"chirograph/node"
	"chirograph/step"
)

// dice are numbers of all kinds, other ones for each seed.
type dice uint32

func (d *dice) roll(n int) int {
	*d = *d*1664525 + 1013904223
	return int(*d>>8) % n
}

// label is one of a few bytes at the beginning, in the middle and at the end, so that many are near one another.
func (d *dice) label() api.Label {
	return api.Label{0: byte(d.roll(8) << 5), 1: byte(d.roll(3)), 16: byte(d.roll(2) << 7), 31: byte(d.roll(4))}
}

// leaves are up to n of them, no label twice, in any order, none of a label of these others.
func (d *dice) leaves(n int, others ...node.Leaf) []node.Leaf {
	var l []node.Leaf
	for range d.roll(n + 1) {
		x := node.Leaf{Label: d.label(), Value: api.Label{byte(d.roll(5))}, At: d.roll(9)}
		if !has(l, x.Label) && !has(others, x.Label) {
			l = append(l, x)
		}
	}
	return l
}

// change is which leaves go, by their labels, and which come: others, and some in the place of those that go.
func (d *dice) change(l []node.Leaf) ([]api.Label, []node.Leaf) {
	fresh := d.leaves(d.roll(8), l...)
	var gone []api.Label
	for _, x := range l {
		if d.roll(4) == 0 {
			gone = append(gone, x.Label)
			switch d.roll(4) {
			case 0:
				fresh = append(fresh, x)
			case 1:
				fresh = append([]node.Leaf{{Label: x.Label, Value: api.Label{9}, At: 10}}, fresh...)
			case 2:
				gone = append(gone, x.Label) // to go twice is to go
			}
		}
	}
	return gone, fresh
}

func has(l []node.Leaf, label api.Label) bool {
	return slices.ContainsFunc(l, func(x node.Leaf) bool { return x.Label == label })
}

// at is the leaf of a label.
func at(l api.Label) node.Leaf {
	return node.Leaf{Label: l, Value: api.Label{l[0] + 1}, At: int(l[31]) + 2}
}

// many are n leaves of unlike labels.
func many(n int) []node.Leaf {
	var l []node.Leaf
	for i := range n {
		l = append(l, at(api.Label{byte(i), byte(i >> 8)}))
	}
	return l
}

// tree is a node with what is below it.
type tree struct {
	item  node.Item
	leaf  node.Leaf
	inner node.Inner
	sides []*tree
}

// grown is the tree of leaves, by the words of layer 16: each bit is asked of each leaf. Of one leaf at least.
func grown(l []node.Leaf) *tree {
	if len(l) == 1 {
		return &tree{item: l[0].Item(), leaf: l[0]}
	}
	for n := range 256 {
		var sides [2][]node.Leaf
		for _, x := range l {
			bit := bits.Bit(x.Label, n)
			sides[bit] = append(sides[bit], x)
		}
		if len(sides[0]) > 0 && len(sides[1]) > 0 {
			left, right := grown(sides[0]), grown(sides[1])
			inner := node.Inner{Left: left.item, Right: right.item}
			return &tree{item: inner.Item(), inner: inner, sides: []*tree{left, right}}
		}
	}
	return nil
}

// sum is that of the tree of leaves.
func sum(l ...node.Leaf) api.Label {
	if len(l) == 0 {
		return node.Empty()
	}
	return grown(l).item.Sum
}

// opened are the parts of a tree that labels don't touch, and the leaves that they do.
func (x *tree) opened(labels []api.Label) ([]node.Item, []node.Leaf) {
	touched := slices.ContainsFunc(labels, func(l api.Label) bool {
		for i := range x.item.Prefix.Len {
			if bits.Bit(l, i) != bits.Bit(x.item.Prefix.Bits, i) {
				return false
			}
		}
		return true
	})
	switch {
	case !touched:
		return []node.Item{x.item}, nil
	case x.sides == nil:
		return nil, []node.Leaf{x.leaf}
	}
	same, old := x.sides[0].opened(labels)
	more, others := x.sides[1].opened(labels)
	return append(same, more...), append(old, others...)
}

// rising are leaves by rising labels.
func rising(l ...node.Leaf) []node.Leaf {
	return slices.SortedFunc(slices.Values(l), func(a, b node.Leaf) int { return bits.Order(a.Label, b.Label) })
}

// behind are the leaves without those that go, with those that come.
func behind(l []node.Leaf, gone []api.Label, fresh []node.Leaf) []node.Leaf {
	var all []node.Leaf
	for _, x := range l {
		if !slices.Contains(gone, x.Label) {
			all = append(all, x)
		}
	}
	return append(all, fresh...)
}

// meant is the step by the chapter's words.
func meant(l []node.Leaf, gone []api.Label, fresh []node.Leaf) step.Step {
	s := step.Step{New: rising(fresh...)}
	if len(l) == 0 {
		return s
	}
	top := grown(l)
	labels := gone
	for _, x := range fresh {
		labels = append(labels[:len(labels):len(labels)], x.Label)
	}
	s.Same, s.Old = top.opened(labels)
	if len(s.Same) != 1 || len(s.Old) > 0 || len(fresh) == 0 {
		return s
	}
	if top.sides == nil {
		return step.Step{Old: l, New: rising(append(s.New, l...)...)}
	}
	return step.Step{Same: []node.Item{top.inner.Left, top.inner.Right}, New: s.New}
}

// same are two steps that are one.
func same(a, b step.Step) bool {
	return slices.Equal(a.Same, b.Same) && slices.Equal(a.Old, b.Old) && slices.Equal(a.New, b.New)
}

// made is what Make answers, without an error.
func made(t *testing.T, l []node.Leaf, gone []api.Label, fresh ...node.Leaf) step.Step {
	t.Helper()
	s, e := step.Make(l, gone, fresh)
	if e != api.OK {
		t.Fatalf("Make: %d", e)
	}
	return s
}

// checks asks what Check answers.
func checks(t *testing.T, from, to api.Label, s step.Step, want api.Errno) {
	t.Helper()
	if e := step.Check(from, to, s); e != want {
		t.Errorf("Check of %v: %d instead of %d", s, e, want)
	}
}

// P19.1, P19.3: the chapter's example, and the most leaves.
func TestExample(t *testing.T) {
	a, b := node.Leaf{At: 1}, node.Leaf{Label: api.Label{0x80}, At: 2}
	s := made(t, []node.Leaf{a}, nil, b)
	if !same(s, step.Step{Old: []node.Leaf{a}, New: []node.Leaf{a, b}}) {
		t.Errorf("%v", s)
	}
	checks(t, sum(a), sum(a, b), s, api.OK)
	if !step.Inserts(s, 2) || step.Inserts(s, 1) || step.MaxLeaves != 500 {
		t.Error("Inserts, MaxLeaves")
	}
}

// P19.1: any leaves, of which any go and to which any come: the step of the chapter's words, which leads where it should, and nowhere else.
func TestMake(t *testing.T) {
	count := map[string]int{}
	for seed := range 4000 {
		r := dice(seed)
		l := r.leaves(r.roll(30))
		gone, fresh := r.change(l)
		s, want := made(t, l, gone, fresh...), meant(l, gone, fresh)
		if !same(s, want) {
			t.Fatalf("of %v without %x with %v: %v instead of %v", l, gone, fresh, s, want)
		}
		from, to := sum(l...), sum(behind(l, gone, fresh)...)
		checks(t, from, to, s, api.OK)
		other := sum(at(api.Label{1, 2, 3}))
		checks(t, other, to, s, api.ErrProof)
		checks(t, from, other, s, api.ErrProof)
		if from != to {
			checks(t, to, from, s, api.ErrProof)
			count["changed"]++
		}
		if len(s.Old) > len(gone) {
			count["one leaf, told"]++
		}
		if len(s.Same) == 2 && len(s.Old) == 0 {
			count["top, told"]++
		}
		if len(s.Same) == 0 && len(l) > 1 {
			count["all touched"]++
		}
	}
	for _, what := range []string{"changed", "one leaf, told", "top, told", "all touched"} {
		if count[what] < 20 {
			t.Errorf("%s but %d times", what, count[what])
		}
	}
}

// P19.1: where one item would stand alone, and something comes, the top is told.
func TestTopTold(t *testing.T) {
	a, b, c, d := at(api.Label{0x20}), at(api.Label{0x30}), at(api.Label{0x28}), at(api.Label{0xf0, 31: 1})
	two := node.Inner{Left: a.Item(), Right: b.Item()}
	for i, x := range []struct {
		l     []node.Leaf
		gone  []api.Label
		fresh []node.Leaf
		want  step.Step
	}{
		// One leaf: among Old and New, ahead of what comes, or behind it.
		{[]node.Leaf{b}, nil, []node.Leaf{a}, step.Step{Old: []node.Leaf{b}, New: []node.Leaf{a, b}}},
		{[]node.Leaf{b}, nil, []node.Leaf{d, a}, step.Step{Old: []node.Leaf{b}, New: []node.Leaf{a, b, d}}},
		// More leaves: the items of the two below the top.
		{[]node.Leaf{b, a}, nil, []node.Leaf{d}, step.Step{Same: []node.Item{a.Item(), b.Item()}, New: []node.Leaf{d}}},
		{[]node.Leaf{a, d, b}, nil, nil, step.Step{Same: []node.Item{node.Inner{Left: two.Item(), Right: d.Item()}.Item()}}},
		// The label goes on below the top: then there are two items anyway.
		{[]node.Leaf{a, d, b}, nil, []node.Leaf{c}, step.Step{Same: []node.Item{a.Item(), b.Item(), d.Item()}, New: []node.Leaf{c}}},
		{[]node.Leaf{a, d, b}, nil, []node.Leaf{at(api.Label{0x80})}, step.Step{Same: []node.Item{two.Item(), d.Item()}, New: []node.Leaf{at(api.Label{0x80})}}},
		// Nothing comes: one item, or one item and a leaf that goes.
		{[]node.Leaf{a}, nil, nil, step.Step{Same: []node.Item{a.Item()}}},
		{nil, nil, nil, step.Step{}},
		{nil, nil, []node.Leaf{b, a}, step.Step{New: []node.Leaf{a, b}}},
		{[]node.Leaf{a}, []api.Label{a.Label}, nil, step.Step{Old: []node.Leaf{a}}},
		{[]node.Leaf{a, b}, []api.Label{b.Label}, nil, step.Step{Same: []node.Item{a.Item()}, Old: []node.Leaf{b}}},
		{[]node.Leaf{a, b}, []api.Label{b.Label}, []node.Leaf{d}, step.Step{Same: []node.Item{a.Item()}, Old: []node.Leaf{b}, New: []node.Leaf{d}}},
		{[]node.Leaf{a}, []api.Label{a.Label}, []node.Leaf{d}, step.Step{Old: []node.Leaf{a}, New: []node.Leaf{d}}},
	} {
		if s := made(t, x.l, x.gone, x.fresh...); !same(s, x.want) {
			t.Errorf("%d: %v instead of %v", i, s, x.want)
		} else {
			checks(t, sum(x.l...), sum(behind(x.l, x.gone, x.fresh)...), s, api.OK)
		}
	}
}

// P19.1: each error of Make, and which is the first one.
func TestMakeErrors(t *testing.T) {
	a, b, c := at(api.Label{0x20}), at(api.Label{0x30}), at(api.Label{0x40})
	early, late := node.Leaf{Label: api.Label{0xa0, 99}, At: -1}, node.Leaf{Label: api.Label{0xa1, 99}, At: 1<<30 + 1}
	most := many(2000)
	for i, x := range []struct {
		l     []node.Leaf
		gone  []api.Label
		fresh []node.Leaf
		want  api.Errno
	}{
		// Too many go or come, whatever they are.
		{[]node.Leaf{early}, make([]api.Label, 501), nil, api.ErrBig},
		{[]node.Leaf{a, a}, []api.Label{b.Label}, many(501), api.ErrBig},
		{nil, nil, slices.Repeat([]node.Leaf{early}, 501), api.ErrBig},
		{nil, make([]api.Label, 500), nil, api.ErrNone},
		{nil, nil, many(501), api.ErrBig},
		// Then the leaves themselves.
		{append(most[:2000:2000], a), []api.Label{{1, 2, 3}}, []node.Leaf{most[3]}, api.ErrBig},
		{[]node.Leaf{a, early}, []api.Label{c.Label}, nil, api.ErrArg},
		{[]node.Leaf{a, late}, nil, []node.Leaf{a}, api.ErrArg},
		{[]node.Leaf{a, b, a}, []api.Label{c.Label}, nil, api.ErrForm},
		{[]node.Leaf{a, b, a}, nil, []node.Leaf{a}, api.ErrForm},
		{[]node.Leaf{late, b, b}, nil, nil, api.ErrForm},
		{[]node.Leaf{late, at(api.Label{0xf0}), at(api.Label{0xf0})}, nil, nil, api.ErrArg},
		// Then what goes.
		{[]node.Leaf{a}, []api.Label{a.Label, b.Label}, []node.Leaf{a}, api.ErrNone},
		{[]node.Leaf{a, b}, []api.Label{c.Label}, []node.Leaf{a}, api.ErrNone},
		{nil, []api.Label{{}}, []node.Leaf{early}, api.ErrNone},
		{[]node.Leaf{a}, []api.Label{b.Label}, []node.Leaf{b}, api.ErrNone},
		// Then what comes, and is there.
		{[]node.Leaf{a, b}, []api.Label{b.Label}, []node.Leaf{b, a}, api.ErrThere},
		{[]node.Leaf{a, b}, nil, []node.Leaf{early, {Label: a.Label, At: -1}}, api.ErrThere},
		{[]node.Leaf{a, b}, nil, []node.Leaf{c, c, b}, api.ErrThere},
		{most, nil, []node.Leaf{c, most[9]}, api.ErrThere},
		// At last what is behind.
		{[]node.Leaf{a}, nil, []node.Leaf{early}, api.ErrArg},
		{[]node.Leaf{a}, nil, []node.Leaf{late}, api.ErrArg},
		{[]node.Leaf{a}, []api.Label{a.Label}, []node.Leaf{{Label: a.Label, At: math.MinInt}}, api.ErrArg},
		{[]node.Leaf{a}, nil, []node.Leaf{b, c, b}, api.ErrForm},
		{[]node.Leaf{a}, []api.Label{a.Label}, []node.Leaf{a, a}, api.ErrForm},
		{[]node.Leaf{a}, nil, []node.Leaf{late, early, c, c}, api.ErrForm},
		{[]node.Leaf{a}, nil, []node.Leaf{at(api.Label{0xf0}), at(api.Label{0xf0}), early}, api.ErrArg},
		{most, nil, []node.Leaf{at(api.Label{0, 0, 7})}, api.ErrBig},
		{most, []api.Label{most[7].Label}, []node.Leaf{at(api.Label{0, 0, 7}), at(api.Label{9, 0, 7})}, api.ErrBig},
		{most[:1999], nil, []node.Leaf{late, early}, api.ErrBig},
	} {
		if s, e := step.Make(x.l, x.gone, x.fresh); !same(s, step.Step{}) || e != x.want {
			t.Errorf("%d: %v, %d instead of %d", i, s, e, x.want)
		}
	}
}

// P19.1: as many as may be.
func TestMost(t *testing.T) {
	most := many(2000)
	var all []api.Label
	for _, x := range most {
		all = append(all, x.Label)
	}
	fresh := make([]node.Leaf, 500)
	for i := range fresh {
		fresh[i] = node.Leaf{Label: api.Label{byte(i), byte(i >> 8), 3}, At: i << 21}
	}
	for i, x := range []struct {
		l     []node.Leaf
		gone  []api.Label
		fresh []node.Leaf
	}{
		{most, all[700:1200], fresh}, {most, all[:500], nil}, {most[:1500], nil, fresh}, {most, slices.Repeat(all[3:4], 500), fresh[:1]}, {nil, nil, fresh}, {fresh, nil, nil},
		{[]node.Leaf{{At: 1 << 30}}, nil, []node.Leaf{{Label: api.Label{1}, At: 1 << 30}, {Label: api.Label{2}}}},
	} {
		s := made(t, x.l, x.gone, x.fresh...)
		if !same(s, meant(x.l, x.gone, x.fresh)) {
			t.Errorf("%d: %v", i, s)
		}
		checks(t, sum(x.l...), sum(behind(x.l, x.gone, x.fresh)...), s, api.OK)
	}
	// One leaf that is told makes one of New more than may be.
	s := made(t, most[7:8], nil, fresh...)
	if len(s.New) != 501 || len(s.Old) != 1 || len(s.Same) != 0 {
		t.Errorf("%v", s)
	}
	checks(t, sum(most[7]), sum(append(fresh, most[7])...), s, api.ErrBig)
	s = made(t, most[7:8], nil, fresh[1:]...)
	checks(t, sum(most[7]), sum(append(fresh[1:], most[7])...), s, api.OK)
}

// K3: nothing that is handed in is changed, nor the spare room behind it, nor shared with what is answered.
func TestMakeKeeps(t *testing.T) {
	for seed := range 200 {
		r := dice(seed)
		l := r.leaves(9)
		gone, fresh := r.change(l)
		spare := node.Leaf{Label: api.Label{0xee}, At: 3}
		l, gone, fresh = append(l, spare), append(gone, spare.Label), append(fresh, spare)
		k, g, f := slices.Clone(l), slices.Clone(gone), slices.Clone(fresh)
		n, m, o := len(l)-1, len(gone)-1, len(fresh)-1
		s := made(t, l[:n], gone[:m], fresh[:o]...)
		want := meant(l[:n], gone[:m], fresh[:o])
		step.Check(sum(l[:n]...), sum(), s)
		step.Extract(l[:n], s)
		if !slices.Equal(k, l) || !slices.Equal(g, gone) || !slices.Equal(f, fresh) || !same(s, want) {
			t.Fatal("changed")
		}
		for i := range l {
			l[i] = node.Leaf{}
		}
		for i := range fresh {
			fresh[i] = node.Leaf{}
		}
		for i := range s.Old {
			s.Old[i] = node.Leaf{}
		}
		if !slices.Equal(s.New, want.New) {
			t.Fatal("shared")
		}
	}
}

// over is an item of the prefix of the first bits of a label.
func over(l api.Label, n int) node.Item {
	return node.Item{Prefix: bits.Cut(l, n), Sum: api.Label{1, byte(n)}, At: n}
}

// P19.1: each error of Check, and which is the first one.
func TestCheckErrors(t *testing.T) {
	a, b := at(api.Label{0x20}), at(api.Label{0x30})
	bad := node.Leaf{Label: api.Label{0x50}, At: -1}
	top, x := over(api.Label{}, 0), over(api.Label{0xf0}, 5)
	from, to := sum(a), sum(a, b)
	five, six := many(501), slices.Repeat([]node.Leaf{bad}, 501)
	for i, c := range []struct {
		s    step.Step
		want api.Errno
	}{
		// Too many leaves.
		{step.Step{Old: five}, api.ErrBig}, {step.Step{New: five}, api.ErrBig}, {step.Step{Old: six, New: []node.Leaf{a, a}}, api.ErrBig},
		{step.Step{Same: []node.Item{{At: -1}}, New: six}, api.ErrBig}, {step.Step{Old: []node.Leaf{bad, bad}, New: six}, api.ErrBig},
		// An item that stands on nothing, even one that isn't good.
		{step.Step{Same: []node.Item{top}, New: []node.Leaf{b}}, api.ErrForm}, {step.Step{Same: []node.Item{x}, New: []node.Leaf{b}}, api.ErrForm},
		{step.Step{Same: []node.Item{a.Item()}, New: []node.Leaf{b}}, api.ErrForm}, {step.Step{Same: []node.Item{{At: -1}}, New: []node.Leaf{bad}}, api.ErrForm},
		// The items ahead, before those behind.
		{step.Step{Same: []node.Item{{At: 1<<30 + 1}}}, api.ErrArg}, {step.Step{Same: []node.Item{{Prefix: bits.Prefix{Len: 257}}, x}, New: []node.Leaf{b, b}}, api.ErrArg},
		{step.Step{Old: []node.Leaf{bad}, New: []node.Leaf{b, b}}, api.ErrArg}, {step.Step{Old: []node.Leaf{b, b}, New: []node.Leaf{bad}}, api.ErrForm},
		{step.Step{Same: []node.Item{x, x}}, api.ErrForm}, {step.Step{Same: []node.Item{top, x}, New: []node.Leaf{bad}}, api.ErrForm}, {step.Step{Same: []node.Item{over(api.Label{0x20}, 3)}, Old: []node.Leaf{a}}, api.ErrForm},
		{step.Step{Same: make([]node.Item, 2001), Old: []node.Leaf{bad}}, api.ErrBig},
		// Those behind.
		{step.Step{Old: []node.Leaf{a}, New: []node.Leaf{bad}}, api.ErrArg}, {step.Step{New: []node.Leaf{{At: 1<<30 + 1}}}, api.ErrArg}, {step.Step{Old: []node.Leaf{a}, New: []node.Leaf{b, a, b}}, api.ErrForm},
		{step.Step{Same: []node.Item{over(api.Label{0x20}, 3), x}, New: []node.Leaf{a}}, api.ErrForm}, {step.Step{Same: []node.Item{a.Item(), x}, New: []node.Leaf{a}}, api.ErrForm},
		// The sums at last.
		{step.Step{}, api.ErrProof}, {step.Step{Old: []node.Leaf{a}}, api.ErrProof}, {step.Step{New: []node.Leaf{a, b}}, api.ErrProof}, {step.Step{Same: []node.Item{x}}, api.ErrProof},
		{step.Step{Same: []node.Item{a.Item()}}, api.ErrProof}, {step.Step{Old: []node.Leaf{a}, New: []node.Leaf{b}}, api.ErrProof}, {step.Step{Old: []node.Leaf{b}, New: []node.Leaf{a, b}}, api.ErrProof},
		{step.Step{Old: []node.Leaf{a, b}, New: []node.Leaf{a}}, api.ErrProof}, {step.Step{Same: []node.Item{a.Item(), x}, New: []node.Leaf{b}}, api.ErrProof},
		{step.Step{Old: []node.Leaf{a}, New: []node.Leaf{a, b}}, api.OK}, {step.Step{Old: []node.Leaf{a}, New: []node.Leaf{b, a}}, api.OK}, {step.Step{Same: []node.Item{a.Item()}, Old: nil}, api.ErrProof},
	} {
		if e := step.Check(from, to, c.s); e != c.want {
			t.Errorf("%d: %d instead of %d", i, e, c.want)
		}
	}
}

// P19.1: as many items as may be, and one more, ahead and behind; and what stands there in another order.
func TestCheckMost(t *testing.T) {
	l := many(2000)
	var parts []node.Item
	for _, x := range l[500:] {
		parts = append(parts, x.Item())
	}
	s := step.Step{Same: parts, Old: l[:500], New: l[:499]}
	all := sum(l...)
	checks(t, all, sum(append(l[500:2000:2000], l[:499]...)...), s, api.OK)
	more := append(parts[:1500:1500], at(api.Label{0, 0, 1}).Item())
	checks(t, all, all, step.Step{Same: more, Old: l[:500], New: l[:499]}, api.ErrBig)
	checks(t, all, all, step.Step{Same: more, Old: l[:499], New: l[:500]}, api.ErrBig)
	checks(t, all, all, step.Step{Same: more, Old: l[:499], New: l[:499]}, api.ErrProof)
	slices.Reverse(parts)
	checks(t, all, all, step.Step{Same: parts, Old: l[:500], New: l[:500]}, api.OK)
	checks(t, node.Empty(), node.Empty(), step.Step{}, api.OK)
	checks(t, all, all, step.Step{Same: []node.Item{grown(l).item}}, api.OK)
}

// P19.1: items of one beginning count in the order in which they stand, Same's ahead of the leaves'.
func TestCheckOrder(t *testing.T) {
	a, b, bad := over(api.Label{}, 0), over(api.Label{}, 9), node.Item{At: -1}
	leaf, worse := node.Leaf{}, node.Leaf{At: -1}
	for _, x := range []struct {
		same []node.Item
		old  []node.Leaf
		want api.Errno
	}{
		{[]node.Item{a, b}, []node.Leaf{worse}, api.ErrForm}, {[]node.Item{a}, []node.Leaf{worse, leaf}, api.ErrArg}, {[]node.Item{a}, []node.Leaf{leaf, worse}, api.ErrForm},
		{[]node.Item{a, b, bad}, nil, api.ErrForm}, {[]node.Item{a, bad, b}, nil, api.ErrArg}, {[]node.Item{bad, a, b}, nil, api.ErrArg},
		{nil, []node.Leaf{leaf, leaf, worse}, api.ErrForm}, {nil, []node.Leaf{leaf, worse, leaf}, api.ErrArg},
	} {
		checks(t, sum(), sum(), step.Step{Same: x.same, Old: x.old, New: []node.Leaf{leaf}}, x.want)
		if len(x.same) != 1 {
			checks(t, sum(), sum(), step.Step{Same: x.same, Old: x.old}, x.want)
		}
	}
}
