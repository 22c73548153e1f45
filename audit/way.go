package audit

import (
	"slices"
	"sort"

	"chirograph/api"
	"chirograph/bits"
	"chirograph/node"
	"chirograph/patch"
	"chirograph/proof"
	"chirograph/step"
)

// known is the way towards a label in a tree of which but some leaves are told: the items beside it, the lowest first, and what is summed of its nodes, the top first.
type known struct {
	path  []node.Item
	texts []string
}

// formed: may it be a step, whatever trees it leads from and to?
func formed(s step.Step) bool {
	e := step.Check(api.Label{}, api.Label{}, s)
	return e == api.OK || e == api.ErrProof
}

// towards: the way towards a label in the tree of parts that aren't told and of leaves.
func towards(same []node.Item, leaves []node.Leaf, x api.Label) known {
	l := patch.Sorted(slices.Concat(same, patch.Of(leaves)))
	if len(l) == 0 {
		return known{texts: []string{string([]byte{node.Empties})}}
	}
	var k known
	for len(l) > 1 {
		near, beside := forked(l, x)
		k.path = append(k.path, whole(beside))
		l = near
	}
	slices.Reverse(k.path)
	low := l[0]
	// Of a part that isn't told nothing is known that was summed.
	if end, told := find(leaves, low.Prefix.Bits); told {
		k.texts = append(k.texts, proof.Summed(end))
	}
	for _, beside := range k.path {
		n := above(low, beside)
		k.texts = append(k.texts, proof.Summed(n))
		low = n.Item()
	}
	slices.Reverse(k.texts)
	return k
}

// carried: the way towards a leaf behind a step, where ahead of it so many of its items stand above what the step leaves as it is; false: the leaf is gone.
func carried(way proof.Proof, s step.Step, x api.Label, above int) (proof.Proof, bool) {
	end := way.Leaf
	if _, told := find(s.Old, x); told {
		if end, told = find(s.New, x); !told {
			return proof.Proof{}, false
		}
	}
	below := way.Path[:len(way.Path)-above]
	behind := towards(s.Same, s.New, x)
	return proof.Proof{End: proof.Leaf, Leaf: end, Path: slices.Concat(below, behind.path)}, true
}

// held: a proof against the way that there is.
func held(p, way proof.Proof, x api.Label) (string, string, bool) {
	told, e := texts(p, x)
	if e != api.OK {
		return "", "", false
	}
	real, e := texts(way, x)
	if e != api.OK {
		return "", "", false
	}
	if a, b, is := unlike(told, real); is {
		return a, b, proof.Clash(a, b)
	}
	return "", "", false
}

// texts: what is summed of the nodes of a proof, the top first; of an empty tree, what its sum is of.
func texts(p proof.Proof, x api.Label) ([]string, api.Errno) {
	nodes, e := p.Nodes(x)
	if e != api.OK {
		return nil, e
	}
	if len(nodes) == 0 {
		return []string{string([]byte{node.Empties})}, api.OK
	}
	var l []string
	for _, n := range slices.Backward(nodes) {
		l = append(l, proof.Summed(n))
	}
	return l, api.OK
}

// unlike: the first two texts that are unlike, as far as both ways are known.
func unlike(told, real []string) (string, string, bool) {
	for i := range min(len(told), len(real)) {
		if told[i] != real[i] {
			return told[i], real[i], true
		}
	}
	return "", "", false
}

// forked: of two items or more those on the side of their tree to which a label goes on, and the others.
func forked(l []node.Item, x api.Label) ([]node.Item, []node.Item) {
	n := common(l)
	at := sort.Search(len(l), func(i int) bool { return bits.Bit(l[i].Prefix.Bits, n) == 1 })
	if bits.Bit(x, n) == 0 {
		return l[:at], l[at:]
	}
	return l[at:], l[:at]
}

// whole: the item of the top of the tree of items that rise, of one at least.
func whole(l []node.Item) node.Item {
	if len(l) == 1 {
		return l[0]
	}
	// No error: these are a part of a tree that was checked.
	sum, _ := patch.Top(l)
	x := node.Item{Prefix: bits.Cut(l[0].Prefix.Bits, common(l)), Sum: sum}
	for _, part := range l {
		x.At = max(x.At, part.At)
	}
	return x
}

// above: the inner node of two items that stand beside one another.
func above(a, b node.Item) node.Inner {
	if bits.Order(a.Prefix.Bits, b.Prefix.Bits) > 0 {
		a, b = b, a
	}
	return node.Inner{Left: a, Right: b}
}

// common: how many bits the prefixes of items that rise have in common.
func common(l []node.Item) int {
	return bits.Common(l[0].Prefix.Bits, l[len(l)-1].Prefix.Bits)
}

// find: the leaf of a label.
func find(l []node.Leaf, x api.Label) (node.Leaf, bool) {
	i := slices.IndexFunc(l, func(y node.Leaf) bool { return y.Label == x })
	if i < 0 {
		return node.Leaf{}, false
	}
	return l[i], true
}
