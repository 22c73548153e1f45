package step

import (
	"testing"

	"chirograph/api"
	"chirograph/node"
)

// forged is a node of which this is summed, whatever is below it: as if many texts had one sum.
func forged(summed string, below ...*part) *part {
	p := &part{summed: summed}
	if len(below) == 2 {
		p.left, p.right = below[0], below[1]
	}
	return p
}

// P19.2: below nodes that are alike the next ones are held, the top first, Left ahead of Right; but no item that comes alone.
func TestUnlike(t *testing.T) {
	a, b, c, d, alone := forged("a"), forged("b"), forged("c"), forged("d"), forged("")
	for i, x := range []struct {
		told, real *part
		a, b       string
	}{
		{a, a, "", ""}, {a, b, "a", "b"}, {alone, a, "", ""}, {alone, forged("t", a, b), "", ""},
		{forged("t", a, b), forged("t", a, b), "", ""}, {forged("t", a, b), forged("u", c, d), "t", "u"},
		{forged("t", a, b), forged("t", c, b), "a", "c"}, {forged("t", a, b), forged("t", a, d), "b", "d"}, {forged("t", a, b), forged("t", c, d), "a", "c"},
		{forged("t", alone, b), forged("t", c, b), "", ""}, {forged("t", alone, b), forged("t", c, d), "b", "d"}, {forged("t", a, alone), forged("t", a, d), "", ""},
		{forged("t", forged("x", a, b), c), forged("t", forged("x", a, d), d), "b", "d"}, {forged("t", forged("x", a, b), c), forged("t", forged("y", a, d), d), "x", "y"},
		{forged("t", a, forged("x", b, c)), forged("t", a, forged("x", b, d)), "c", "d"}, {forged("t", forged("x", alone, alone), forged("y", a, b)), forged("t", forged("x", c, c), forged("y", b, a)), "a", "b"},
	} {
		told, real, is := unlike(x.told, x.real)
		if told != x.a || real != x.b || is != (x.a != "") {
			t.Errorf("%d: %q, %q, %v", i, told, real, is)
		}
	}
}

// P19.2: the tree that is walked has all nodes, with what is summed of them.
func TestGrow(t *testing.T) {
	a, b, c := node.Leaf{Label: api.Label{0x20}, At: 1}, node.Leaf{Label: api.Label{0x30}, At: 2}, node.Leaf{Label: api.Label{0xf0}, At: 3}
	two := node.Inner{Left: a.Item(), Right: b.Item()}
	top := node.Inner{Left: two.Item(), Right: c.Item()}
	p := grow(parts(nil, []node.Leaf{c, b, a}))
	for _, x := range []struct {
		p      *part
		n      node.Node
		summed string
		below  bool
	}{
		{p, top, node.InnerBytes(top), true}, {p.left, two, node.InnerBytes(two), true}, {p.right, c, node.LeafBytes(c), false},
		{p.left.left, a, node.LeafBytes(a), false}, {p.left.right, b, node.LeafBytes(b), false},
	} {
		if x.p.item != x.n.Item() || x.p.summed != x.summed || (x.p.left != nil) != x.below || (x.p.right != nil) != x.below {
			t.Errorf("%v instead of %v", x.p, x.n)
		}
	}
	p = grow(parts([]node.Item{two.Item()}, []node.Leaf{c}))
	if p.summed != node.InnerBytes(top) || p.left.summed != "" || p.left.item != two.Item() || p.left.left != nil || p.right.summed != node.LeafBytes(c) {
		t.Errorf("%v", p)
	}
	if p = grow(nil); p.summed != "\x12" || p.left != nil {
		t.Errorf("%v", p)
	}
}
