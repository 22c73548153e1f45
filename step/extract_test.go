package step_test

import (
	"slices"
	"testing"

	"chirograph/api"
	"chirograph/node"
	"chirograph/patch"
	"chirograph/step"
)

// empty is what is summed of a tree without leaves.
const empty = "\x12"

// text is what is summed of the top of the tree of leaves.
func text(l ...node.Leaf) string {
	switch len(l) {
	case 0:
		return empty
	case 1:
		return node.LeafBytes(l[0])
	}
	return node.InnerBytes(grown(l).inner)
}

// extracts asks what Extract answers: no two unlike texts of one sum are known, so it never finds any.
func extracts(t *testing.T, l []node.Leaf, s step.Step, told, real string) {
	t.Helper()
	if a, b, is := step.Extract(l, s); a != told || b != real || is {
		t.Errorf("Extract of %v, %v: %q, %q, %v instead of %q, %q", l, s, a, b, is, told, real)
	}
}

// P19.2: a step that was made is as its tree is, all over; held against another tree the tops are told.
func TestExtract(t *testing.T) {
	for seed := range 600 {
		r := dice(seed)
		l := r.leaves(r.roll(20))
		gone, fresh := r.change(l)
		s := made(t, l, gone, fresh...)
		extracts(t, l, s, "", "")
		// What it leads to isn't asked.
		extracts(t, l, step.Step{Same: s.Same, Old: s.Old, New: []node.Leaf{{At: -1}, {At: -1}}}, "", "")
		other := r.leaves(r.roll(4))
		switch {
		case sum(other...) == sum(l...):
			extracts(t, other, s, "", "")
		case len(s.Same) == 1 && len(s.Old) == 0:
			extracts(t, other, s, "", "")
		default:
			extracts(t, other, s, text(l...), text(other...))
		}
	}
}

// P19.2: each kind of top.
func TestExtractTops(t *testing.T) {
	a, b, c := at(api.Label{0x20}), at(api.Label{0x30}), at(api.Label{0xf0})
	turned := node.Leaf{Label: a.Label, Value: api.Label{0xaa}, At: a.At}
	for _, x := range []struct {
		l          []node.Leaf
		s          step.Step
		told, real string
	}{
		{nil, step.Step{}, "", ""}, {[]node.Leaf{a}, step.Step{}, empty, text(a)}, {[]node.Leaf{a, b}, step.Step{}, empty, text(a, b)},
		{nil, step.Step{Old: []node.Leaf{a}}, text(a), empty}, {[]node.Leaf{a}, step.Step{Old: []node.Leaf{a}}, "", ""}, {[]node.Leaf{a}, step.Step{Old: []node.Leaf{turned}}, text(turned), text(a)},
		{[]node.Leaf{a, b}, step.Step{Old: []node.Leaf{a}}, text(a), text(a, b)}, {[]node.Leaf{a}, step.Step{Old: []node.Leaf{b, a}}, text(a, b), text(a)},
		// An item that comes alone isn't held, whatever it is,
		{nil, step.Step{Same: []node.Item{a.Item()}}, "", ""}, {[]node.Leaf{b}, step.Step{Same: []node.Item{a.Item()}}, "", ""}, {[]node.Leaf{b, c}, step.Step{Same: []node.Item{a.Item()}, New: []node.Leaf{a}}, "", ""},
		// but the node of two.
		{nil, step.Step{Same: []node.Item{a.Item(), b.Item()}}, text(a, b), empty}, {[]node.Leaf{b, a}, step.Step{Same: []node.Item{a.Item(), b.Item()}}, "", ""}, {[]node.Leaf{b, c}, step.Step{Same: []node.Item{a.Item(), b.Item()}}, text(a, b), text(b, c)},
		{[]node.Leaf{b, a}, step.Step{Same: []node.Item{b.Item()}, Old: []node.Leaf{a}}, "", ""}, {[]node.Leaf{b, a}, step.Step{Same: []node.Item{b.Item()}, Old: []node.Leaf{turned}}, text(turned, b), text(a, b)},
		{[]node.Leaf{c, b, a}, step.Step{Same: []node.Item{grown([]node.Leaf{a, b}).item}, Old: []node.Leaf{c}}, "", ""}, {[]node.Leaf{c, b, turned}, step.Step{Same: []node.Item{grown([]node.Leaf{a, b}).item}, Old: []node.Leaf{c}}, text(a, b, c), text(turned, b, c)},
		// In any order.
		{[]node.Leaf{a, b, c}, step.Step{Same: []node.Item{c.Item(), a.Item()}, Old: []node.Leaf{b}}, "", ""}, {[]node.Leaf{c, a, b}, step.Step{Old: []node.Leaf{c, b, a}}, "", ""},
	} {
		extracts(t, x.l, x.s, x.told, x.real)
	}
}

// P19.2: nothing is told where the leaves, or the items ahead, aren't in form.
func TestExtractErrors(t *testing.T) {
	a, b, bad := at(api.Label{0x20}), at(api.Label{0x30}), node.Leaf{At: -1}
	l := many(2001)
	for _, x := range []struct {
		l []node.Leaf
		s step.Step
	}{
		{[]node.Leaf{bad}, step.Step{Old: []node.Leaf{a}}}, {[]node.Leaf{a, a}, step.Step{Old: []node.Leaf{b}}}, {l, step.Step{Old: []node.Leaf{b}}},
		{[]node.Leaf{a}, step.Step{Old: []node.Leaf{bad}}}, {[]node.Leaf{a}, step.Step{Old: []node.Leaf{b, b}}}, {[]node.Leaf{a}, step.Step{Old: l}}, {[]node.Leaf{a}, step.Step{Same: []node.Item{{At: -1}}}},
		{[]node.Leaf{a}, step.Step{Same: []node.Item{over(api.Label{}, 0)}, Old: []node.Leaf{b}}}, {nil, step.Step{Same: []node.Item{over(api.Label{}, 0), over(api.Label{}, 1)}}}, {nil, step.Step{Same: make([]node.Item, 2001)}},
	} {
		extracts(t, x.l, x.s, "", "")
	}
	// More leaves than Check takes, but no more than a tree has.
	extracts(t, []node.Leaf{a}, step.Step{Old: l[:2000]}, text(l[:2000]...), text(a))
}

// altered is a step of which something was changed.
func altered(r *dice, s step.Step) step.Step {
	s = step.Step{Same: slices.Clone(s.Same), Old: slices.Clone(s.Old), New: slices.Clone(s.New)}
	for range 1 + r.roll(2) {
		switch n := r.roll(9); {
		case n == 0:
			s.New = append(s.New, at(r.label()))
		case n == 1 && len(s.New) > 0:
			s.New = slices.Delete(s.New, 0, 1)
		case n == 2 && len(s.New) > 0:
			s.New[r.roll(len(s.New))].Value[3] ^= 1
		case n == 3 && len(s.Old) > 0:
			s.Old[r.roll(len(s.Old))].At ^= 1
		case n == 4 && len(s.Old) > 0:
			s.Old = slices.Delete(s.Old, 0, 1)
		case n == 5 && len(s.Old) > 0:
			s.Same, s.Old = append(s.Same, s.Old[0].Item()), s.Old[1:]
		case n == 6 && len(s.Same) > 0:
			x := &s.Same[r.roll(len(s.Same))]
			x.Prefix.Len = max(x.Prefix.Len-1, 0)
			x.Prefix.Bits = api.Label{}
		case n == 7 && len(s.Same) > 0:
			s.Same = slices.Delete(s.Same, 0, 1)
		case n == 8:
			s.Old = append(s.Old, at(r.label()))
		}
	}
	return s
}

// P19.2: whatever the step: if it is taken for the tree of leaves, then it leads to the tree of these without Old, with New.
func TestSure(t *testing.T) {
	taken := 0
	for seed := range 6000 {
		r := dice(seed)
		l := r.leaves(r.roll(12))
		gone, fresh := r.change(l)
		s := altered(&r, made(t, l, gone, fresh...))
		to, e := patch.Top(patch.Sorted(slices.Concat(s.Same, patch.Of(s.New))))
		if e != api.OK || step.Check(sum(l...), to, s) != api.OK {
			continue
		}
		taken++
		var old []api.Label
		for _, x := range s.Old {
			if !slices.Contains(l, x) {
				t.Fatalf("no leaf: %v of %v", x, l)
			}
			old = append(old, x.Label)
		}
		if want := sum(behind(l, old, s.New)...); to != want {
			t.Fatalf("%v of %v leads to %x instead of %x", s, l, to, want)
		}
		extracts(t, l, s, "", "")
	}
	if taken < 1000 {
		t.Errorf("%d taken", taken)
	}
}
