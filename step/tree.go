package step

import (
	"slices"

	"chirograph/bits"
	"chirograph/node"
	"chirograph/proof"
)

// part is a node of a tree, with what is below it, as far as that is known.
type part struct {
	item        node.Item
	summed      string // what is summed of it; nothing, where the item alone is known
	left, right *part  // none of a leaf, of an item that comes alone, of an empty tree
}

// parts: the items that come alone, and the leaves, of one tree, by rising labels.
func parts(same []node.Item, leaves []node.Leaf) []*part {
	var l []*part
	for _, x := range same {
		l = append(l, &part{item: x})
	}
	for _, x := range leaves {
		l = append(l, &part{item: x.Item(), summed: proof.Summed(x)})
	}
	slices.SortFunc(l, func(a, b *part) int { return bits.Order(a.item.Prefix.Bits, b.item.Prefix.Bits) })
	return l
}

// grow: the tree of parts that rise, none over another one: its top.
func grow(l []*part) *part {
	switch len(l) {
	case 0:
		return &part{summed: string([]byte{node.Empties})}
	case 1:
		return l[0]
	}
	n := bits.Common(l[0].item.Prefix.Bits, l[len(l)-1].item.Prefix.Bits)
	ones, noughts := cut(l, func(p *part) bool { return bits.Bit(p.item.Prefix.Bits, n) == 1 })
	left, right := grow(noughts), grow(ones)
	x := node.Inner{Left: left.item, Right: right.item}
	return &part{item: x.Item(), summed: proof.Summed(x), left: left, right: right}
}

// unlike: of a tree that is told and the real one, what is summed of the first two nodes of which that is unlike, the top first, if any are.
func unlike(told, real *part) (string, string, bool) {
	switch {
	case told.summed == "":
		return "", "", false
	case told.summed != real.summed:
		return told.summed, real.summed, true
	case told.left == nil:
		return "", "", false
	}
	// Like texts are of like kinds: below the real one there are two as well.
	if a, b, is := unlike(told.left, real.left); is {
		return a, b, true
	}
	return unlike(told.right, real.right)
}
