package proof_test

import (
	"crypto/sha256"
	"math"
	"slices"
	"testing"

	"chirograph/api"
	"chirograph/bits"
	"chirograph/node"
	"chirograph/patch"
	"chirograph/proof"
)

// dice are numbers of all kinds, other ones for each seed.
type dice uint32

func (d *dice) roll(n int) int {
	*d = *d*1664525 + 1013904223
	return int(*d>>8) % n
}

// label is one of a few bytes at the beginning, in the middle and at the end, so that many are near one another.
func (d *dice) label() api.Label {
	return api.Label{0: byte(d.roll(8) << 5), 1: byte(d.roll(3)), 16: byte(d.roll(2) << 7), 31: byte(d.roll(4))}
}

// leaves are up to n of them, no label twice, in any order.
func (d *dice) leaves(n int) []node.Leaf {
	var l []node.Leaf
	for range d.roll(n + 1) {
		x := node.Leaf{Label: d.label(), Value: api.Label{byte(d.roll(5))}, At: d.roll(9)}
		if !slices.ContainsFunc(l, func(y node.Leaf) bool { return y.Label == x.Label }) {
			l = append(l, x)
		}
	}
	return l
}

// some are labels to ask for: any, those of leaves, and such as part from those at any bit.
func (d *dice) some(l []node.Leaf) []api.Label {
	all := []api.Label{{}, d.label(), {byte(d.roll(256)), byte(d.roll(256))}}
	for _, x := range l {
		near := x.Label
		at := d.roll(256)
		near[at/8] ^= 0x80 >> (at % 8)
		all = append(all, x.Label, near)
	}
	return all
}

// at is the leaf of a label.
func at(l api.Label) node.Leaf {
	return node.Leaf{Label: l, Value: api.Label{l[0] + 1}, At: int(l[31]) + 2}
}

// chain are leaves of which each next one parts from the first one a bit further behind: no tree is deeper.
func chain() []node.Leaf {
	l := []node.Leaf{at(api.Label{5, 31: 0x5e})}
	for i := range 256 {
		x := l[0].Label
		x[i/8] ^= 0x80 >> (i % 8)
		l = append(l, at(x))
	}
	return l
}

// tree is a node with what is below it.
type tree struct {
	item  node.Item
	leaf  node.Leaf
	inner node.Inner
	sides []*tree
}

// grown is the tree of leaves, by the words of layer 16: each bit is asked of each leaf. Of one leaf at least.
func grown(l []node.Leaf) *tree {
	if len(l) == 1 {
		return &tree{item: l[0].Item(), leaf: l[0]}
	}
	for n := range 256 {
		var sides [2][]node.Leaf
		for _, x := range l {
			bit := bits.Bit(x.Label, n)
			sides[bit] = append(sides[bit], x)
		}
		if len(sides[0]) > 0 && len(sides[1]) > 0 {
			left, right := grown(sides[0]), grown(sides[1])
			inner := node.Inner{Left: left.item, Right: right.item}
			return &tree{item: inner.Item(), inner: inner, sides: []*tree{left, right}}
		}
	}
	return nil
}

// sum is that of the tree of leaves.
func sum(l []node.Leaf) api.Label {
	if len(l) == 0 {
		return node.Empty()
	}
	return grown(l).item.Sum
}

// way is that towards a label in the tree of leaves, by the chapter's words: the proof, and its nodes from the top on.
func way(l []node.Leaf, label api.Label) (proof.Proof, []node.Node) {
	if len(l) == 0 {
		return proof.Proof{}, nil
	}
	var path []node.Item
	var nodes []node.Node
	x := grown(l)
	for x.sides != nil && begins(label, x.item.Prefix) {
		bit := bits.Bit(label, x.item.Prefix.Len)
		nodes = append(nodes, x.inner)
		path = append([]node.Item{x.sides[1-bit].item}, path...)
		x = x.sides[bit]
	}
	if x.sides == nil {
		return proof.Proof{End: proof.Leaf, Leaf: x.leaf, Path: path}, append(nodes, x.leaf)
	}
	return proof.Proof{End: proof.Pair, Pair: x.inner, Path: path}, append(nodes, x.inner)
}

// begins asks each bit of a prefix.
func begins(l api.Label, p bits.Prefix) bool {
	for i := range p.Len {
		if bits.Bit(l, i) != bits.Bit(p.Bits, i) {
			return false
		}
	}
	return true
}

// same are two proofs that are one.
func same(p, q proof.Proof) bool {
	return p.End == q.End && p.Leaf == q.Leaf && p.Pair == q.Pair && slices.Equal(p.Path, q.Path)
}

// made is what Make answers, without an error.
func made(t *testing.T, l []node.Leaf, label api.Label) proof.Proof {
	t.Helper()
	p, e := proof.Make(l, label)
	if e != api.OK {
		t.Fatalf("Make: %d", e)
	}
	return p
}

// checks asks what Check answers.
func checks(t *testing.T, top, label api.Label, p proof.Proof, want node.Leaf, is bool, errno api.Errno) {
	t.Helper()
	if x, ok, e := proof.Check(top, label, p); x != want || ok != is || e != errno {
		t.Errorf("Check of %x, %v: %v, %v, %d instead of %v, %v, %d", label, p, x, ok, e, want, is, errno)
	}
}

// refused asks that a proof's nodes have an error, all over.
func refused(t *testing.T, label api.Label, p proof.Proof, want api.Errno) {
	t.Helper()
	if l, e := p.Nodes(label); len(l) != 0 || e != want {
		t.Errorf("Nodes of %x, %v: %v, %d instead of %d", label, p, l, e, want)
	}
	checks(t, node.Empty(), label, p, node.Leaf{}, false, want)
	for _, l := range [][]node.Leaf{nil, {at(label)}} {
		if a, b, is := proof.Extract(l, label, p); a != "" || b != "" || is {
			t.Errorf("Extract of %v: %q, %q, %v", p, a, b, is)
		}
	}
}

// P18.1: the chapter's examples, and the names of the ends.
func TestExample(t *testing.T) {
	l := []node.Leaf{at(api.Label{0}), at(api.Label{0x40}), at(api.Label{0x80})}
	p := made(t, l, api.Label{0x40})
	if !same(p, proof.Proof{End: 1, Leaf: l[1], Path: []node.Item{l[0].Item(), l[2].Item()}}) {
		t.Errorf("%v", p)
	}
	checks(t, sum(l), api.Label{0x40}, p, l[1], true, api.OK)
	p = made(t, l, api.Label{0xc0})
	two := node.Inner{Left: l[0].Item(), Right: l[1].Item()}
	if !same(p, proof.Proof{End: 1, Leaf: l[2], Path: []node.Item{two.Item()}}) {
		t.Errorf("%v", p)
	}
	checks(t, sum(l), api.Label{0xc0}, p, node.Leaf{}, false, api.OK)
	if [...]int{proof.None, proof.Leaf, proof.Pair, proof.MaxPath} != [...]int{0, 1, 2, 256} {
		t.Error("constants")
	}
}

// P18.1: each kind of end, at the top and below it.
func TestEnds(t *testing.T) {
	a, b, c := at(api.Label{0x20}), at(api.Label{0x30}), at(api.Label{0xf0})
	low := node.Inner{Left: a.Item(), Right: b.Item()}
	for i, x := range []struct {
		l     []node.Leaf
		label api.Label
		want  proof.Proof
		is    bool
	}{
		{nil, a.Label, proof.Proof{}, false},
		{[]node.Leaf{a}, a.Label, proof.Proof{End: proof.Leaf, Leaf: a}, true},
		{[]node.Leaf{a}, b.Label, proof.Proof{End: proof.Leaf, Leaf: a}, false},
		{[]node.Leaf{b, a}, api.Label{0xff}, proof.Proof{End: proof.Pair, Pair: low}, false},
		{[]node.Leaf{b, a}, api.Label{0x40}, proof.Proof{End: proof.Pair, Pair: low}, false},
		{[]node.Leaf{b, a}, api.Label{0x3f}, proof.Proof{End: proof.Leaf, Leaf: b, Path: []node.Item{a.Item()}}, false},
		{[]node.Leaf{b, c, a}, api.Label{0x40}, proof.Proof{End: proof.Pair, Pair: low, Path: []node.Item{c.Item()}}, false},
		{[]node.Leaf{b, c, a}, api.Label{0x80}, proof.Proof{End: proof.Leaf, Leaf: c, Path: []node.Item{low.Item()}}, false},
		{[]node.Leaf{b, c, a}, b.Label, proof.Proof{End: proof.Leaf, Leaf: b, Path: []node.Item{a.Item(), c.Item()}}, true},
	} {
		p := made(t, x.l, x.label)
		if !same(p, x.want) {
			t.Errorf("%d: %v instead of %v", i, p, x.want)
		}
		found := node.Leaf{}
		if x.is {
			found = x.want.Leaf
		}
		checks(t, sum(x.l), x.label, p, found, x.is, api.OK)
	}
}

// P18.1: of any tree each label's proof is the way there, has its nodes, is taken, and says what is so.
func TestAnyTree(t *testing.T) {
	count := map[int]int{}
	for seed := range 60 {
		r := dice(seed)
		l := r.leaves(40)
		top := sum(l)
		for _, label := range r.some(l) {
			want, nodes := way(l, label)
			slices.Reverse(nodes)
			p := made(t, l, label)
			if !same(p, want) {
				t.Fatalf("%v, %x: %v instead of %v", l, label, p, want)
			}
			if got, e := p.Nodes(label); !slices.Equal(got, nodes) || e != api.OK {
				t.Fatalf("%v, %x: %v, %d instead of %v", l, label, got, e, nodes)
			}
			at := slices.IndexFunc(l, func(x node.Leaf) bool { return x.Label == label })
			if at < 0 {
				checks(t, top, label, p, node.Leaf{}, false, api.OK)
			} else {
				checks(t, top, label, p, l[at], true, api.OK)
			}
			checks(t, api.Label{1}, label, p, node.Leaf{}, false, api.ErrProof)
			if a, b, is := proof.Extract(l, label, p); a != "" || b != "" || is {
				t.Fatalf("Extract: %q, %q, %v", a, b, is)
			}
			count[p.End]++
		}
	}
	if count[proof.None] < 3 || count[proof.Leaf] < 500 || count[proof.Pair] < 100 {
		t.Errorf("%v", count)
	}
}

// P18.1: the deepest tree: as many items as a path may have.
func TestDeep(t *testing.T) {
	l := chain()
	top := sum(l)
	for i, x := range l {
		p := made(t, l, x.Label)
		if want := min(i, 256); i > 0 && len(p.Path) != want || i == 0 && len(p.Path) != 256 {
			t.Errorf("%d: %d items", i, len(p.Path))
		}
		checks(t, top, x.Label, p, x, true, api.OK)
		if _, _, is := proof.Extract(l, x.Label, p); is {
			t.Error("Extract")
		}
	}
}

// P18.1: the errors of the leaves.
func TestMakeErrors(t *testing.T) {
	a, b := at(api.Label{0x20}), at(api.Label{0x40})
	early, late := node.Leaf{At: -1}, node.Leaf{Label: api.Label{0xf0}, At: 1<<30 + 1}
	var full []node.Leaf
	for i := range 2001 {
		full = append(full, node.Leaf{Label: api.Label{byte(i), byte(i >> 8)}})
	}
	for i, x := range []struct {
		l    []node.Leaf
		want api.Errno
	}{
		{[]node.Leaf{a, a}, api.ErrForm}, {[]node.Leaf{a, b, {Label: a.Label}}, api.ErrForm}, {[]node.Leaf{early}, api.ErrArg}, {[]node.Leaf{b, a, late}, api.ErrArg},
		{[]node.Leaf{late, a, a}, api.ErrForm}, {[]node.Leaf{a, a, early}, api.ErrArg}, {full, api.ErrBig}, {make([]node.Leaf, 2001), api.ErrBig}, {full[1:], api.OK},
	} {
		for _, label := range []api.Label{{}, a.Label, {0xff}} {
			p, e := proof.Make(x.l, label)
			if e != x.want || e != patch.Check(patch.Of(x.l)) || e != api.OK && !same(p, proof.Proof{}) {
				t.Errorf("%d: %v, %d instead of %d", i, p, e, x.want)
			}
			if e == api.OK {
				continue
			}
			told, real, is := proof.Extract(x.l, a.Label, proof.Proof{End: proof.Leaf, Leaf: a})
			if told != "" || real != "" || is {
				t.Errorf("%d: Extract: %q, %q, %v", i, told, real, is)
			}
		}
	}
}

// over is an item over the labels that begin with n bits of l.
func over(l api.Label, n int) node.Item {
	return node.Item{Prefix: bits.Cut(l, n), Sum: api.Label{7, byte(n)}, At: n}
}

// P18.1: the errors of a proof's end.
func TestWrongEnd(t *testing.T) {
	a, b, c := over(api.Label{0x20}, 4), over(api.Label{0x30}, 4), over(api.Label{0xf0}, 9)
	path := []node.Item{c}
	label := api.Label{0x80}
	for _, end := range []int{-1, 3, math.MinInt, math.MaxInt} {
		refused(t, label, proof.Proof{End: end}, api.ErrArg)
		refused(t, label, proof.Proof{End: end, Path: []node.Item{{At: -1}}}, api.ErrArg)
	}
	refused(t, label, proof.Proof{Path: path}, api.ErrForm)
	refused(t, label, proof.Proof{Path: []node.Item{{At: -1}}}, api.ErrForm)
	for _, when := range []int{-1, 1<<30 + 1} {
		refused(t, label, proof.Proof{End: proof.Leaf, Leaf: node.Leaf{Label: label, At: when}}, api.ErrArg)
		bad := a
		bad.At = when
		refused(t, label, proof.Proof{End: proof.Pair, Pair: node.Inner{Left: bad, Right: b}}, api.ErrArg)
	}
	refused(t, label, proof.Proof{End: proof.Pair}, api.ErrForm)
	refused(t, label, proof.Proof{End: proof.Pair, Pair: node.Inner{Left: b, Right: a}}, api.ErrForm)
	refused(t, api.Label{0x20}, proof.Proof{End: proof.Pair, Pair: node.Inner{Left: b, Right: a}}, api.ErrForm)
	// The label begins with the end's prefix, whose items may be over it, or not.
	for _, l := range []api.Label{{0x20}, {0x3f, 0xff}, {0x28, 1}} {
		refused(t, l, proof.Proof{End: proof.Pair, Pair: node.Inner{Left: a, Right: b}}, api.ErrProof)
		refused(t, l, proof.Proof{End: proof.Pair, Pair: node.Inner{Left: a, Right: b}, Path: []node.Item{{At: -1}}}, api.ErrProof)
	}
	low, high := over(api.Label{}, 1), over(api.Label{0x80}, 1)
	refused(t, label, proof.Proof{End: proof.Pair, Pair: node.Inner{Left: low, Right: high}}, api.ErrProof)
	// What the end doesn't use isn't asked.
	p := proof.Proof{End: proof.Pair, Leaf: node.Leaf{At: -1}, Pair: node.Inner{Left: a, Right: b}}
	checks(t, p.Pair.Item().Sum, label, p, node.Leaf{}, false, api.OK)
	p = proof.Proof{End: proof.Leaf, Leaf: at(label), Pair: node.Inner{Left: b, Right: a}}
	checks(t, p.Leaf.Item().Sum, label, p, p.Leaf, true, api.OK)
	p = proof.Proof{Leaf: at(label), Pair: node.Inner{Left: a, Right: b}}
	checks(t, node.Empty(), label, p, node.Leaf{}, false, api.OK)
}

// P18.1: the errors of a proof's path, and which is the first one.
func TestWrongPath(t *testing.T) {
	label := api.Label{0x40}
	l := at(label)
	good := []node.Item{over(api.Label{0x60}, 3), over(api.Label{}, 2), over(api.Label{0x80}, 1)}
	leaf := func(path ...node.Item) proof.Proof { return proof.Proof{End: proof.Leaf, Leaf: l, Path: path} }
	if n, e := leaf(good...).Nodes(label); len(n) != 4 || e != api.OK {
		t.Errorf("%v, %d", n, e)
	}
	for _, x := range []node.Item{{At: -1}, {Prefix: good[1].Prefix, At: 1<<30 + 1}, {Prefix: bits.Prefix{Len: 257}}, {Prefix: bits.Prefix{Len: -1}}, {Prefix: bits.Prefix{Len: 1, Bits: api.Label{0x40}}}} {
		refused(t, label, leaf(x), api.ErrArg)
		refused(t, label, leaf(good[0], x), api.ErrArg)
		refused(t, label, leaf(good[0], good[1], good[2], x), api.ErrArg)
		refused(t, label, leaf(good[0], good[0], x), api.ErrForm)
		refused(t, label, leaf(good[0], x, good[0]), api.ErrArg)
	}
	// Over what is there, or below it.
	for n := range 257 {
		refused(t, label, leaf(over(label, n)), api.ErrForm)
	}
	refused(t, label, leaf(good[0], over(api.Label{0x60}, 9)), api.ErrForm)
	refused(t, label, leaf(good[0], over(api.Label{0x50}, 4)), api.ErrForm)
	refused(t, label, leaf(good[2], good[1]), api.ErrForm)
	// Another label than the path is for.
	refused(t, api.Label{0x60}, leaf(good...), api.ErrProof)
	refused(t, api.Label{}, leaf(good[1]), api.ErrProof)
	refused(t, api.Label{0x80}, leaf(good[2]), api.ErrProof)
	refused(t, api.Label{0x80}, leaf(good[0]), api.ErrProof)
	refused(t, api.Label{0x80}, leaf(good[0], good[2]), api.ErrProof)
	refused(t, api.Label{0x80}, leaf(good[0], node.Item{At: -1}), api.ErrProof)
	// The way may end at a leaf that isn't the label's, as long as it goes there.
	checks(t, node.Inner{Left: l.Item(), Right: good[2]}.Item().Sum, api.Label{}, leaf(good[2]), node.Leaf{}, false, api.OK)
	checks(t, node.Inner{Left: l.Item(), Right: good[0]}.Item().Sum, api.Label{0x5f}, leaf(good[0]), node.Leaf{}, false, api.OK)
}

// P18.1: how many items a path may have.
func TestLongPath(t *testing.T) {
	l := chain()
	p := made(t, l, l[0].Label)
	long := p
	long.Path = append(slices.Clone(p.Path), over(api.Label{}, 1))
	refused(t, l[0].Label, long, api.ErrBig)
	for _, end := range []int{-1, 0, 1, 2, 3} {
		refused(t, l[0].Label, proof.Proof{End: end, Leaf: node.Leaf{At: -1}, Path: make([]node.Item, 257)}, api.ErrBig)
		refused(t, l[0].Label, proof.Proof{End: end, Path: make([]node.Item, 1<<20)}, api.ErrBig)
	}
	refused(t, l[0].Label, proof.Proof{End: proof.Leaf, Leaf: l[0], Path: make([]node.Item, 256)}, api.ErrForm)
}

// P18.2: what is summed of nodes; what isn't a clash.
func TestSummed(t *testing.T) {
	l := at(api.Label{3})
	n := node.Inner{Left: l.Item(), Right: at(api.Label{0xf3}).Item()}
	if s := proof.Summed(l); s != node.LeafBytes(l) || sha256.Sum256([]byte(s)) != l.Item().Sum {
		t.Errorf("%q", s)
	}
	if s := proof.Summed(n); s != node.InnerBytes(n) || sha256.Sum256([]byte(s)) != n.Item().Sum {
		t.Errorf("%q", s)
	}
	if s := proof.Summed(nil); s != "" {
		t.Errorf("%q", s)
	}
	// Of any, right or not.
	if proof.Summed(node.Leaf{At: -1}) != node.LeafBytes(node.Leaf{At: -1}) || proof.Summed(node.Inner{}) != node.InnerBytes(node.Inner{}) {
		t.Error("of nodes that aren't right")
	}
	for _, x := range [][2]string{{"", ""}, {"a", "a"}, {"a", "b"}, {"", "\x00"}, {proof.Summed(l), proof.Summed(n)}, {"\x12", ""}} {
		if proof.Clash(x[0], x[1]) || proof.Clash(x[1], x[0]) {
			t.Errorf("%q", x)
		}
	}
}

// summed is what is summed of the nodes of a way from the top on; of an empty tree, and of None, one byte.
func summed(nodes []node.Node) []string {
	if len(nodes) == 0 {
		return []string{"\x12"}
	}
	var l []string
	for _, n := range nodes {
		if x, is := node.AsLeaf(n); is {
			l = append(l, node.LeafBytes(x))
		} else {
			x, _ := node.AsInner(n)
			l = append(l, node.InnerBytes(x))
		}
	}
	return l
}

// P18.2: a proof of another tree: the first two nodes that are unlike, told ahead of real.
func TestExtract(t *testing.T) {
	unlike := 0
	for seed := range 100 {
		r := dice(seed)
		l, other := r.leaves(12), r.leaves(12)
		for _, label := range append(r.some(l), r.some(other)...) {
			p, told := way(other, label)
			_, real := way(l, label)
			a, b := summed(told), summed(real)
			wantTold, wantReal := "", ""
			for i := range min(len(a), len(b)) {
				if a[i] != b[i] {
					wantTold, wantReal = a[i], b[i]
					unlike++
					break
				}
			}
			told1, real1, is := proof.Extract(l, label, p)
			if told1 != wantTold || real1 != wantReal || is {
				t.Fatalf("%v, %v, %x: %q, %q, %v instead of %q, %q", l, other, label, told1, real1, is, wantTold, wantReal)
			}
		}
	}
	if unlike < 1000 {
		t.Errorf("%d unlike", unlike)
	}
}

// P18.2: of no leaves, and of None.
func TestExtractOfEmpty(t *testing.T) {
	a, b := at(api.Label{0x20}), at(api.Label{0x40})
	one := proof.Proof{End: proof.Leaf, Leaf: a}
	top := node.Inner{Left: a.Item(), Right: b.Item()}
	for i, x := range []struct {
		l          []node.Leaf
		p          proof.Proof
		told, real string
	}{
		{nil, proof.Proof{}, "", ""},
		{nil, one, node.LeafBytes(a), "\x12"},
		{[]node.Leaf{a}, proof.Proof{}, "\x12", node.LeafBytes(a)},
		{[]node.Leaf{a, b}, proof.Proof{}, "\x12", node.InnerBytes(top)},
		{[]node.Leaf{a, b}, one, node.LeafBytes(a), node.InnerBytes(top)},
		{[]node.Leaf{a}, one, "", ""},
		{[]node.Leaf{b}, one, node.LeafBytes(a), node.LeafBytes(b)},
	} {
		if told, real, is := proof.Extract(x.l, a.Label, x.p); told != x.told || real != x.real || is {
			t.Errorf("%d: %q, %q, %v", i, told, real, is)
		}
	}
}

// altered is a proof with one thing in it another one.
func altered(r *dice, p proof.Proof) proof.Proof {
	p.Path = slices.Clone(p.Path)
	turn := func(l *api.Label) { l[r.roll(32)] ^= 1 << r.roll(8) }
	item := func(x *node.Item) {
		switch r.roll(4) {
		case 0:
			turn(&x.Sum)
		case 1:
			x.At += r.roll(5) - 2
		case 2:
			turn(&x.Prefix.Bits)
		case 3:
			x.Prefix = bits.Cut(x.Prefix.Bits, r.roll(257))
		}
	}
	switch n := r.roll(9); {
	case n == 0:
		p.End = r.roll(3)
	case n == 1:
		turn(&p.Leaf.Label)
	case n == 2:
		turn(&p.Leaf.Value)
	case n == 3:
		p.Leaf.At += r.roll(5) - 2
	case n == 4:
		item(&p.Pair.Left)
	case n == 5:
		item(&p.Pair.Right)
	case n == 6:
		p.Path = append(p.Path, over(r.label(), r.roll(257)))
	case len(p.Path) == 0:
		p.End++
	case n == 7:
		item(&p.Path[r.roll(len(p.Path))])
	case n == 8:
		at := r.roll(len(p.Path))
		p.Path = slices.Delete(p.Path, at, at+1)
	}
	return p
}

// fault is the error of a proof's nodes, by the chapter's words.
func fault(label api.Label, p proof.Proof) api.Errno {
	if len(p.Path) > 256 {
		return api.ErrBig
	}
	var low node.Item
	switch p.End {
	case 0:
		if len(p.Path) > 0 {
			return api.ErrForm
		}
	case 1:
		if e := node.Check(p.Leaf); e != api.OK {
			return e
		}
		low = p.Leaf.Item()
	case 2:
		if e := node.Check(p.Pair); e != api.OK {
			return e
		}
		low = p.Pair.Item()
		if begins(label, low.Prefix) {
			return api.ErrProof
		}
	default:
		return api.ErrArg
	}
	for _, x := range p.Path {
		n, side := node.Inner{Left: low, Right: x}, 0
		if bits.Order(low.Prefix.Bits, x.Prefix.Bits) > 0 {
			n, side = node.Inner{Left: x, Right: low}, 1
		}
		if e := node.Check(n); e != api.OK {
			return e
		}
		low = n.Item()
		if !begins(label, low.Prefix) || bits.Bit(label, low.Prefix.Len) != side {
			return api.ErrProof
		}
	}
	return api.OK
}

// P18.2: a proof that was altered has the error that it should; if it is taken for the tree's sum, it says what is so (or two unlike texts of one sum are told); if not, what is unlike is told.
func TestAltered(t *testing.T) {
	count := map[api.Errno]int{}
	for seed := range 8000 {
		r := dice(seed)
		l := r.leaves(10)
		top := sum(l)
		all := r.some(l)
		label := all[r.roll(len(all))]
		p, _ := way(l, label)
		for range 1 + r.roll(2) {
			p = altered(&r, p)
		}
		if r.roll(8) == 0 {
			label = all[r.roll(len(all))]
		}
		nodes, e := p.Nodes(label)
		if want := fault(label, p); e != want || e != api.OK && len(nodes) != 0 {
			t.Fatalf("%v: %d instead of %d", p, e, want)
		}
		x, is, checked := proof.Check(top, label, p)
		told, real, clash := proof.Extract(l, label, p)
		count[checked]++
		switch {
		case e != api.OK:
			if checked != e || told != "" || real != "" {
				t.Fatalf("%v: %d instead of %d, %q, %q", p, checked, e, told, real)
			}
		case checked == api.OK:
			if clash {
				continue
			}
			at := slices.IndexFunc(l, func(x node.Leaf) bool { return x.Label == label })
			if is != (at >= 0) || is && x != l[at] || told != "" || real != "" {
				t.Fatalf("%v: %v, %v, %q, %q", p, x, is, told, real)
			}
		case checked != api.ErrProof || told == real:
			t.Fatalf("%v: %d, %q", p, checked, told)
		}
	}
	for _, e := range []api.Errno{api.OK, api.ErrArg, api.ErrForm, api.ErrProof} {
		if count[e] < 200 {
			t.Errorf("%d but %d times", e, count[e])
		}
	}
}

// P18.1, P18.2: what is handed in isn't changed, nor the room behind it, and answers are the caller's alone (K3).
func TestMemory(t *testing.T) {
	a, b, c, d := at(api.Label{0xf0}), at(api.Label{0x40}), at(api.Label{}), at(api.Label{0x80})
	room := []node.Leaf{a, b, c, d}
	for _, label := range []api.Label{b.Label, {0xff}, {0x20}, {0x48}} {
		l := slices.Clone(room)[:3]
		want, _ := way(l, label)
		p := made(t, l, label)
		again := made(t, l, label)
		if _, _, is := proof.Extract(l, label, p); is || !slices.Equal(l[:4], room) {
			t.Errorf("%v", l[:4])
		}
		clear(l[:4])
		if !same(p, want) {
			t.Errorf("%v instead of %v", p, want)
		}
		// Nor does a path keep, or change, what it is asked of.
		path := append(p.Path, over(api.Label{1}, 8))
		long := path[:len(p.Path)]
		p.Path = long
		first, _ := p.Nodes(label)
		s, _ := proof.Bytes(p)
		if !same(p, want) || path[len(path)-1] != over(api.Label{1}, 8) {
			t.Errorf("%v", path)
		}
		clear(path)
		second, _ := again.Nodes(label)
		q, _ := proof.Read(s)
		if !slices.Equal(first, second) || !same(again, want) || !same(q, want) {
			t.Errorf("%v, %v", again, q)
		}
	}
}

// P18.3: what isn't told is zero, so that there and back is the same.
func TestZeroes(t *testing.T) {
	for seed := range 50 {
		r := dice(seed)
		l := r.leaves(9)
		for _, label := range r.some(l) {
			p := made(t, l, label)
			if p.End != proof.Leaf && p.Leaf != (node.Leaf{}) || p.End != proof.Pair && p.Pair != (node.Inner{}) {
				t.Errorf("%v", p)
			}
		}
	}
	if p := made(t, nil, api.Label{1}); !same(p, proof.Proof{}) {
		t.Errorf("%v", p)
	}
	// In its bytes there is nothing of what its end doesn't use.
	l := at(api.Label{3})
	n := node.Inner{Left: l.Item(), Right: at(api.Label{0xf3}).Item()}
	full := proof.Proof{Leaf: l, Pair: n}
	for end, want := range []proof.Proof{{}, {End: 1, Leaf: l}, {End: 2, Pair: n}} {
		full.End = end
		s, e := proof.Bytes(full)
		p, f := proof.Read(s)
		if e != api.OK || f != api.OK || !same(p, want) {
			t.Errorf("%v, %d, %d", p, e, f)
		}
	}
}
