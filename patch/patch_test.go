package patch_test

import (
	"math"
	"slices"
	"testing"

	"chirograph/api"
	"chirograph/bits"
	"chirograph/node"
	"chirograph/patch"
)

// dice are numbers of all kinds, other ones for each seed.
type dice uint32

func (d *dice) roll(n int) int {
	*d = *d*1664525 + 1013904223
	return int(*d>>8) % n
}

// label is one of a few bytes at the beginning, in the middle and at the end, so that many are near one another.
func (d *dice) label() api.Label {
	return api.Label{0: byte(d.roll(8) << 5), 1: byte(d.roll(3)), 16: byte(d.roll(2) << 7), 31: byte(d.roll(4))}
}

// leaves are up to n of them, no label twice, in any order.
func (d *dice) leaves(n int) []node.Leaf {
	var l []node.Leaf
	for range d.roll(n + 1) {
		l = with(l, node.Leaf{Label: d.label(), Value: api.Label{byte(d.roll(5))}, At: d.roll(9)})
	}
	return l
}

// with is a list of leaves with one more, if its label isn't there.
func with(l []node.Leaf, x node.Leaf) []node.Leaf {
	if slices.ContainsFunc(l, func(y node.Leaf) bool { return y.Label == x.Label }) {
		return l
	}
	return append(l, x)
}

// mixed is a list in another order.
func mixed[T any](d *dice, l []T) []T {
	l = slices.Clone(l)
	for i := range l {
		j := d.roll(i + 1)
		l[i], l[j] = l[j], l[i]
	}
	return l
}

// at is the leaf of a label.
func at(l api.Label) node.Leaf {
	return node.Leaf{Label: l, Value: api.Label{l[0] + 1}, At: int(l[31]) + 2}
}

// over is an item over the labels that begin with n bits of l.
func over(l api.Label, n int) node.Item {
	return node.Item{Prefix: bits.Cut(l, n), Sum: api.Label{7, byte(n)}, At: n}
}

// tree is that of items, by the chapter's words: each bit is asked of each item. Of one item at least.
func tree(l []node.Item) node.Item {
	if len(l) == 1 {
		return l[0]
	}
	for n := range 256 {
		var sides [2][]node.Item
		for _, x := range l {
			bit := bits.Bit(x.Prefix.Bits, n)
			sides[bit] = append(sides[bit], x)
		}
		if len(sides[0]) > 0 && len(sides[1]) > 0 {
			return node.Inner{Left: tree(sides[0]), Right: tree(sides[1])}.Item()
		}
	}
	return node.Item{}
}

// sum is that of the tree of items, by the chapter's words.
func sum(l []node.Item) api.Label {
	if len(l) == 0 {
		return node.Empty()
	}
	return tree(l).Sum
}

// checks asks what Check, and Top beside an error, answer.
func checks(t *testing.T, want api.Errno, l ...node.Item) {
	t.Helper()
	if e := patch.Check(l); e != want {
		t.Errorf("Check of %.5v: %d instead of %d", l, e, want)
	}
	top, e := patch.Top(l)
	if e != want || want != api.OK && top != (api.Label{}) {
		t.Errorf("Top of %.5v: %x, %d instead of %d", l, top, e, want)
	}
}

// tops asks what Top answers.
func tops(t *testing.T, want api.Label, l []node.Item) {
	t.Helper()
	if top, e := patch.Top(l); top != want || e != api.OK {
		t.Errorf("Top of %v: %x, %d instead of %x", l, top, e, want)
	}
}

// P16.1, P16.2: the chapter's example.
func TestExample(t *testing.T) {
	l := []node.Leaf{at(api.Label{0}), at(api.Label{0x40}), at(api.Label{0x80})}
	two := node.Inner{Left: l[0].Item(), Right: l[1].Item()}.Item()
	same, touched, e := patch.Cover(l, []api.Label{{0x80}})
	if e != api.OK || two.Prefix.Len != 1 || !slices.Equal(same, []node.Item{two}) || !slices.Equal(touched, l[2:]) {
		t.Errorf("%v, %v, %d", same, touched, e)
	}
	same, touched, e = patch.Cover(l, []api.Label{{0xc0}})
	if e != api.OK || !slices.Equal(same, []node.Item{two, l[2].Item()}) || len(touched) != 0 {
		t.Errorf("%v, %v, %d", same, touched, e)
	}
}

// P16.1: each error.
func TestCheck(t *testing.T) {
	a, b, c := over(api.Label{0x20}, 3), over(api.Label{0x40}, 2), over(api.Label{0xc0}, 256)
	checks(t, api.OK)
	checks(t, api.OK, a)
	checks(t, api.OK, a, b, c)
	checks(t, api.OK, a, c)
	checks(t, api.OK, over(api.Label{}, 0))
	for _, l := range [][]node.Item{{b, a}, {a, c, b}, {c, a, b}, {a, a}, {a, b, b}, {a, b, c, c}, {a, b, c, a}} {
		checks(t, api.ErrForm, l...)
	}
	for n := range 257 {
		x := over(c.Prefix.Bits, n)
		checks(t, api.ErrForm, x, c)
		checks(t, api.ErrForm, c, x)
		checks(t, api.ErrForm, x, x)
		if n < 256 {
			low, _ := bits.Cut(c.Prefix.Bits, n).Next(0)
			high, _ := bits.Cut(c.Prefix.Bits, n).Next(1)
			checks(t, api.OK, node.Item{Prefix: low}, node.Item{Prefix: high})
			checks(t, api.ErrForm, node.Item{Prefix: high}, node.Item{Prefix: low})
		}
	}
	// Over one that doesn't stand beside it.
	checks(t, api.ErrForm, over(api.Label{}, 0), over(api.Label{0x20}, 3), over(api.Label{0x80}, 1))
	checks(t, api.ErrForm, over(api.Label{}, 256), over(api.Label{0x20}, 3), over(api.Label{0x20}, 2))
	checks(t, api.ErrForm, over(api.Label{}, 1), over(api.Label{0x20}, 3), over(api.Label{0x40}, 256))
	checks(t, api.ErrForm, over(api.Label{}, 256), over(api.Label{0x40}, 3), over(api.Label{}, 1))
}

// P16.1: items that aren't good, and which error is the first one.
func TestCheckOfBadItems(t *testing.T) {
	a, b := over(api.Label{0x20}, 3), over(api.Label{0x40}, 2)
	for _, x := range []node.Item{
		{At: -1}, {At: 1<<30 + 1}, {Prefix: b.Prefix, At: math.MinInt}, {Prefix: b.Prefix, At: math.MaxInt}, {Prefix: bits.Prefix{Len: -1}},
		{Prefix: bits.Prefix{Len: 257}}, {Prefix: bits.Prefix{Len: 1, Bits: api.Label{0x40}}}, {Prefix: bits.Prefix{Len: math.MaxInt, Bits: api.Label{0xff}}},
	} {
		checks(t, api.ErrArg, x)
		checks(t, api.ErrArg, a, x)
		checks(t, api.ErrArg, x, a)
		checks(t, api.ErrArg, a, x, a)
		checks(t, api.ErrArg, x, x)
		checks(t, api.ErrForm, b, a, x)
		checks(t, api.ErrForm, a, a, x)
		checks(t, api.ErrBig, append(many(2000), x)...)
		checks(t, api.ErrArg, append(many(1999), x)...)
	}
	checks(t, api.OK, node.Item{Prefix: a.Prefix}, node.Item{Prefix: b.Prefix, At: 1 << 30})
}

// many are so many items that rise.
func many(n int) []node.Item {
	var l []node.Item
	for i := range n {
		l = append(l, over(api.Label{0: byte(i >> 8), 1: byte(i)}, 16+i%200))
	}
	return l
}

// P16.1: how many items there may be.
func TestMaxItems(t *testing.T) {
	if patch.MaxItems != 2000 {
		t.Errorf("MaxItems: %d", patch.MaxItems)
	}
	all := many(2001)
	checks(t, api.OK, all[:2000]...)
	checks(t, api.OK, all[1:]...)
	tops(t, sum(all[:2000]), all[:2000])
	checks(t, api.ErrBig, all...)
	checks(t, api.ErrBig, make([]node.Item, 2001)...)
	checks(t, api.ErrForm, make([]node.Item, 2000)...)
	slices.Reverse(all)
	checks(t, api.ErrBig, all...)
	checks(t, api.ErrForm, all[1:]...)
	checks(t, api.ErrBig, make([]node.Item, 1000000)...)
}

// P16.1: the tree of none, of one, of parts of any prefixes.
func TestTop(t *testing.T) {
	tops(t, node.Empty(), nil)
	tops(t, node.Empty(), []node.Item{})
	for _, n := range []int{0, 1, 9, 255, 256} {
		x := over(api.Label{0x60, 0xff}, n)
		tops(t, x.Sum, []node.Item{x})
	}
	a, b, c, d := over(api.Label{}, 256), over(api.Label{31: 1}, 256), over(api.Label{0x10}, 4), over(api.Label{0x80}, 1)
	two := node.Inner{Left: a, Right: b}.Item()
	three := node.Inner{Left: two, Right: c}.Item()
	tops(t, two.Sum, []node.Item{a, b})
	tops(t, three.Sum, []node.Item{a, b, c})
	tops(t, node.Inner{Left: three, Right: d}.Item().Sum, []node.Item{a, b, c, d})
	tops(t, node.Inner{Left: three, Right: d}.Item().Sum, []node.Item{three, d})
	tops(t, node.Inner{Left: c, Right: d}.Item().Sum, []node.Item{c, d})
}

// chain are leaves of which each next one parts from the last one a bit further behind: no tree is deeper.
func chain() []node.Leaf {
	last := api.Label{5, 31: 0x5e}
	l := []node.Leaf{at(last)}
	for i := range 256 {
		x := last
		x[i/8] ^= 0x80 >> (i % 8)
		l = append(l, at(x))
	}
	return l
}

// P16.1, P16.2: the deepest tree.
func TestDeep(t *testing.T) {
	l := chain()
	items := patch.Of(l)
	tops(t, sum(items), items)
	same, touched, e := patch.Cover(l, []api.Label{l[0].Label})
	if e != api.OK || len(same) != 256 || !slices.Equal(touched, l[:1]) {
		t.Errorf("%d items, %v, %d", len(same), touched, e)
	}
	same, touched, e = patch.Cover(l, []api.Label{l[200].Label})
	if e != api.OK || len(same) != 200 || !slices.Equal(touched, l[200:201]) {
		t.Errorf("%d items, %v, %d", len(same), touched, e)
	}
}

// P16.1: any items, so many as there may be or more, by rising bits, and those of the same bits as they stood.
func TestSorted(t *testing.T) {
	for seed := range 300 {
		r := dice(seed)
		var l []node.Item
		for range r.roll(60) {
			l = append(l, node.Item{Prefix: bits.Prefix{Len: r.roll(700) - 200, Bits: r.label()}, Sum: api.Label{byte(r.roll(9))}, At: len(l)})
		}
		sorted := patch.Sorted(l)
		if len(sorted) != len(l) {
			t.Fatalf("%d instead of %d", len(sorted), len(l))
		}
		seen := make([]bool, len(l))
		for i, x := range sorted {
			if seen[x.At] || x != l[x.At] {
				t.Fatalf("%v isn't in the list, or is there twice", x)
			}
			seen[x.At] = true
			if i == 0 {
				continue
			}
			order := bits.Order(sorted[i-1].Prefix.Bits, x.Prefix.Bits)
			if order > 0 || order == 0 && sorted[i-1].At > x.At {
				t.Fatalf("%v ahead of %v", sorted[i-1], x)
			}
		}
	}
	if len(patch.Sorted(nil)) != 0 || len(patch.Sorted(many(2001))) != 2001 {
		t.Error("none, many")
	}
}

// P16.1: the items of leaves, right or not.
func TestOf(t *testing.T) {
	a, b, c, d := at(api.Label{0x80}), at(api.Label{}), node.Leaf{Label: api.Label{31: 1}, At: -1}, node.Leaf{Value: api.Label{9}, At: math.MaxInt}
	want := []node.Item{b.Item(), d.Item(), c.Item(), a.Item()}
	if l := patch.Of([]node.Leaf{a, b, c, d}); !slices.Equal(l, want) {
		t.Errorf("%v instead of %v", l, want)
	}
	if len(patch.Of(nil)) != 0 || len(patch.Of(make([]node.Leaf, 2001))) != 2001 {
		t.Error("none, many")
	}
	for seed := range 100 {
		r := dice(seed)
		l := r.leaves(30)
		var items []node.Item
		for _, x := range l {
			items = append(items, x.Item())
		}
		if !slices.Equal(patch.Of(l), patch.Sorted(items)) {
			t.Fatalf("%v", l)
		}
	}
}

// P16.1, P16.3: the sum of any leaves' tree, in whatever order they stand.
func TestTopOfLeaves(t *testing.T) {
	for seed := range 400 {
		r := dice(seed)
		l := r.leaves(40)
		want := sum(patch.Of(l))
		tops(t, want, patch.Of(l))
		for range 3 {
			tops(t, want, patch.Of(mixed(&r, l)))
		}
		slices.Reverse(l)
		tops(t, want, patch.Of(l))
	}
}

// covered is what Cover answers, by the chapter's words, of the leaves' tree: each label is asked of each node. Of one leaf at least.
func covered(l []node.Leaf, labels []api.Label) (same []node.Item, touched []node.Leaf) {
	top := tree(patch.Of(l))
	if !slices.ContainsFunc(labels, top.Prefix.Has) {
		return []node.Item{top}, nil
	}
	if len(l) == 1 {
		return nil, l
	}
	for bit := range 2 {
		side := slices.DeleteFunc(slices.Clone(l), func(x node.Leaf) bool { return bits.Bit(x.Label, top.Prefix.Len) != bit })
		s, u := covered(side, labels)
		same, touched = append(same, s...), append(touched, u...)
	}
	return same, touched
}

// labels are any, some of them those of leaves, some twice.
func labels(r *dice, l []node.Leaf) []api.Label {
	var all []api.Label
	for range r.roll(7) {
		switch n := r.roll(4); {
		case n == 0 && len(l) > 0:
			all = append(all, l[r.roll(len(l))].Label)
		case n == 1:
			all = append(all, api.Label{byte(r.roll(256)), byte(r.roll(256)), byte(r.roll(256))})
		case n == 2 && len(all) > 0:
			all = append(all, all[r.roll(len(all))])
		default:
			all = append(all, r.label())
		}
	}
	return all
}

// P16.2: the greatest parts that no label touches, and the touched leaves; together they are the tree.
func TestCover(t *testing.T) {
	for seed := range 800 {
		r := dice(seed)
		l := r.leaves(30)
		these := labels(&r, l)
		same, touched, e := patch.Cover(l, these)
		if e != api.OK {
			t.Fatalf("%d", e)
		}
		var wantSame []node.Item
		var wantTouched []node.Leaf
		if len(l) > 0 {
			wantSame, wantTouched = covered(l, these)
		}
		if !slices.Equal(same, wantSame) || !slices.Equal(touched, wantTouched) {
			t.Fatalf("%v, %v:\n%v, %v\ninstead of %v, %v", l, these, same, touched, wantSame, wantTouched)
		}
		tops(t, sum(patch.Of(l)), patch.Sorted(append(same, patch.Of(touched)...)))
	}
}

// P16.2: whatever becomes of the touched leaves, and whatever stands at the labels: the items are parts of the tree that it is then.
func TestCoverStays(t *testing.T) {
	for seed := range 2000 {
		r := dice(seed)
		l := r.leaves(30)
		these := labels(&r, l)
		same, touched, _ := patch.Cover(l, these)
		kept := slices.DeleteFunc(slices.Clone(l), func(x node.Leaf) bool { return slices.Contains(touched, x) })
		var fresh []node.Leaf
		for _, x := range touched {
			switch r.roll(3) {
			case 0:
				fresh = append(fresh, x)
			case 1:
				fresh = append(fresh, node.Leaf{Label: x.Label, Value: api.Label{0xee}, At: 99})
			}
		}
		for _, x := range these {
			if r.roll(3) > 0 {
				fresh = with(fresh, at(x))
			}
		}
		items := patch.Sorted(append(same, patch.Of(fresh)...))
		tops(t, sum(patch.Of(append(kept, fresh...))), items)
	}
}

// P16.2: the edges: no leaf, one, no label, all labels.
func TestCoverEdges(t *testing.T) {
	a, b := at(api.Label{0x20}), at(api.Label{0x40})
	top := node.Inner{Left: a.Item(), Right: b.Item()}.Item()
	for i, x := range []struct {
		l       []node.Leaf
		labels  []api.Label
		same    []node.Item
		touched []node.Leaf
	}{
		{nil, nil, nil, nil},
		{nil, []api.Label{{}, {1}}, nil, nil},
		{[]node.Leaf{a}, nil, []node.Item{a.Item()}, nil},
		{[]node.Leaf{a}, []api.Label{{0x20}, {0x20}}, nil, []node.Leaf{a}},
		{[]node.Leaf{a}, []api.Label{{0x20, 31: 1}}, []node.Item{a.Item()}, nil},
		{[]node.Leaf{b, a}, nil, []node.Item{top}, nil},
		{[]node.Leaf{b, a}, []api.Label{{0x80}, {0xff}}, []node.Item{top}, nil},
		{[]node.Leaf{b, a}, []api.Label{{}}, []node.Item{a.Item(), b.Item()}, nil},
		{[]node.Leaf{b, a}, []api.Label{{0x7f}}, []node.Item{a.Item(), b.Item()}, nil},
		{[]node.Leaf{b, a}, []api.Label{{0xff}, {0x40}, {}, {0x20}}, nil, []node.Leaf{a, b}},
	} {
		same, touched, e := patch.Cover(x.l, x.labels)
		if e != api.OK || !slices.Equal(same, x.same) || !slices.Equal(touched, x.touched) {
			t.Errorf("%d: %v, %v, %d", i, same, touched, e)
		}
	}
}

// P16.2: each error of the leaves, and nothing beside it.
func TestCoverErrors(t *testing.T) {
	a, b, early, late := at(api.Label{0x20}), at(api.Label{0x40}), node.Leaf{At: -1}, node.Leaf{Label: api.Label{0xf0}, At: 1<<30 + 1}
	twice := node.Leaf{Label: a.Label, At: 5}
	var full []node.Leaf
	for i := range 2001 {
		full = append(full, node.Leaf{Label: api.Label{byte(i), byte(i >> 8)}})
	}
	for i, x := range []struct {
		l    []node.Leaf
		want api.Errno
	}{
		{[]node.Leaf{a, twice}, api.ErrForm}, {[]node.Leaf{a, b, a}, api.ErrForm}, {[]node.Leaf{early}, api.ErrArg}, {[]node.Leaf{b, a, late}, api.ErrArg},
		// Item by item, as they rise.
		{[]node.Leaf{late, a, a}, api.ErrForm}, {[]node.Leaf{a, a, early}, api.ErrArg},
		{full, api.ErrBig}, {full[1:], api.OK}, {append(full[1:2000:2000], late), api.ErrArg}, {make([]node.Leaf, 2001), api.ErrBig}, {make([]node.Leaf, 2000), api.ErrForm},
	} {
		for _, these := range [][]api.Label{nil, {{0x20}}, make([]api.Label, 5000)} {
			same, touched, e := patch.Cover(x.l, these)
			if e != x.want || e != api.OK && (len(same) != 0 || len(touched) != 0) {
				t.Errorf("%d: %d instead of %d, %d, %d", i, e, x.want, len(same), len(touched))
			}
		}
	}
}

// nodes is how many nodes the tree of items has, by the chapter's words. Of one item at least.
func nodes(l []node.Item) int {
	if len(l) == 1 {
		return 1
	}
	top := tree(l)
	var sides [2][]node.Item
	for _, x := range l {
		bit := bits.Bit(x.Prefix.Bits, top.Prefix.Len)
		sides[bit] = append(sides[bit], x)
	}
	return 1 + nodes(sides[0]) + nodes(sides[1])
}

// P16.1: how many nodes there are.
func TestCount(t *testing.T) {
	for n, want := range map[int]int{0: 0, -1: 0, math.MinInt: 0, 1: 1, 2: 3, 3: 5, 2000: 3999, 1<<61 - 1: 1<<62 - 3} {
		if patch.Count(n) != want {
			t.Errorf("%d: %d instead of %d", n, patch.Count(n), want)
		}
	}
	for seed := range 50 {
		r := dice(seed)
		if l := append(r.leaves(20), node.Leaf{Label: api.Label{5: 1}}); patch.Count(len(l)) != nodes(patch.Of(l)) {
			t.Errorf("%d leaves: %d", len(l), patch.Count(len(l)))
		}
	}
}

// P16.1, P16.2: what is handed in isn't changed, nor the room behind it, and answers are the caller's alone (K3).
func TestMemory(t *testing.T) {
	whole := []node.Leaf{at(api.Label{0x80}), at(api.Label{0x40}), at(api.Label{0}), at(api.Label{0xff}), at(api.Label{1})}
	twin := slices.Clone(whole)
	l := whole[:3]
	room := []api.Label{{0x90}, {0x80}, {0x01}, {0xff}, {0}}
	same, touched, _ := patch.Cover(l, room[:2])
	items := patch.Of(l)
	slices.Reverse(items)
	spare := append(items, over(api.Label{}, 3))
	sorted := patch.Sorted(spare[:3])
	if _, e := patch.Top(spare[:3]); e != api.ErrForm || patch.Check(spare[:3]) != api.ErrForm {
		t.Errorf("%d", e)
	}
	if !slices.Equal(whole, twin) || !slices.Equal(room, []api.Label{{0x90}, {0x80}, {0x01}, {0xff}, {0}}) {
		t.Errorf("%v, %v", whole, room)
	}
	if !slices.Equal(spare, []node.Item{twin[0].Item(), twin[1].Item(), twin[2].Item(), over(api.Label{}, 3)}) {
		t.Errorf("%v", spare)
	}
	clear(whole)
	clear(room)
	clear(spare)
	two := node.Inner{Left: twin[2].Item(), Right: twin[1].Item()}.Item()
	if !slices.Equal(same, []node.Item{two}) || !slices.Equal(touched, twin[:1]) || !slices.Equal(sorted, patch.Of(twin[:3])) {
		t.Errorf("%v, %v, %v", same, touched, sorted)
	}
	// Lists that are in order already are answered anew, too.
	again := patch.Sorted(sorted)
	clear(sorted)
	if !slices.Equal(again, patch.Of(twin[:3])) {
		t.Errorf("%v", again)
	}
}
