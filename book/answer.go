package book

import (
	"strings"

	"chirograph/api"
	"chirograph/label"
	"chirograph/node"
	"chirograph/proof"
)

// answer: what there is to tell of a version of this seed, where these are the tree's leaves.
func (b *Book) answer(all []node.Leaf, v version, seed api.Label) (Answer, api.Errno) {
	fresh, is, here, e := b.prove(all, label.Fresh(seed))
	if e != api.OK {
		return Answer{}, e
	}
	_, _, past, e := b.prove(all, label.Stale(seed))
	if e != api.OK {
		return Answer{}, e
	}
	a := Answer{Id: strings.Clone(v.id), Version: v.n, State: Present, Epoch: b.epoch, Fresh: here, Stale: past}
	switch {
	case !is:
		a.State = Absent
	case v.n == 0:
		// That the identity is there is all that there is to tell.
	case fresh.Value == label.Tomb():
		a.State, a.At = Buried, fresh.At
	default:
		a.At = fresh.At
		if a.Value, _, e = b.store.Get(v.key()); e != api.OK {
			return Answer{}, e
		}
	}
	return a, api.OK
}

// prove: the leaf of a label, if there is one, and the bytes of the proof of it.
func (b *Book) prove(all []node.Leaf, l api.Label) (node.Leaf, bool, string, api.Errno) {
	p, e := proof.Make(all, l)
	if e != api.OK {
		return node.Leaf{}, false, "", e
	}
	text, e := proof.Bytes(p)
	if e != api.OK {
		return node.Leaf{}, false, "", e
	}
	leaf, is, e := proof.Check(b.top, l, p)
	return leaf, is, text, e
}
