package book

import (
	"slices"

	"chirograph/api"
	"chirograph/label"
	"chirograph/leaves"
	"chirograph/node"
	"chirograph/patch"
	"chirograph/step"
)

// plan is what an epoch is to do: of which seeds it tells, the labels of leaves that go, the leaves that come, and what is written beside them.
type plan struct {
	seeds  []api.Label
	gone   []api.Label
	fresh  []node.Leaf
	values []api.Entry
}

// add: an identity has one version more.
func (b *Book) add(p *plan, u Update) api.Errno {
	n, e := b.latest(u.Id)
	if e != api.OK {
		return e
	}
	ahead, e := label.Seed(b.key, u.Id, n)
	if e != api.OK {
		return e
	}
	seed, e := label.Seed(b.key, u.Id, n+1)
	if e != api.OK {
		return e
	}
	// The identity's own label comes with its version 1; the version ahead of another one is superseded.
	mark := label.Stale(ahead)
	if n == 0 {
		mark = label.Fresh(ahead)
	}
	at := b.epoch + 1
	p.fresh = append(p.fresh,
		node.Leaf{Label: mark, Value: label.Mark(), At: at},
		node.Leaf{Label: label.Fresh(seed), Value: label.Commit(u.Value, label.Nonce(b.key, seed)), At: at})
	p.values = append(p.values, api.Entry{Key: version{u.Id, n + 1}.key(), Value: u.Value})
	return api.OK
}

// old is a version that was superseded, with its seed and its leaves.
type old struct {
	version
	seed         api.Label
	fresh, stale node.Leaf
}

// retire: an epoch in which versions that were superseded so many epochs ahead of it, or more, are buried, or, if they are buried, dropped.
func (b *Book) retire(age int, buried bool) (Change, api.Errno) {
	l, e := b.ripe(age, buried)
	if e != api.OK {
		return Change{}, e
	}
	if len(l) == 0 {
		return Change{}, api.ErrNone
	}
	if b.epoch == api.MaxEpoch {
		return Change{}, api.ErrEpoch
	}
	var p plan
	for _, x := range l {
		p.seeds = append(p.seeds, x.seed)
		p.gone = append(p.gone, x.fresh.Label, x.stale.Label)
		if !buried {
			p.fresh = append(p.fresh, node.Leaf{Label: x.fresh.Label, Value: label.Tomb(), At: x.fresh.At}, x.stale)
		}
		// Of one that is buried now the entry stays, without the value: by it Drop finds the version.
		p.values = append(p.values, api.Entry{Key: x.key(), Gone: buried})
	}
	return b.carry(p)
}

// ripe: the first versions, as many as may be told at once, that were superseded so many epochs, or more, ahead of the next epoch, and are buried, or aren't.
func (b *Book) ripe(age int, buried bool) ([]old, api.Errno) {
	all, e := leaves.All(b.store)
	if e != api.OK {
		return nil, e
	}
	at := map[api.Label]node.Leaf{}
	for _, x := range all {
		at[x.Label] = x
	}
	entries, e := b.store.Scan(values, beyond)
	if e != api.OK {
		return nil, e
	}
	var l []old
	for _, x := range entries {
		v, e := readVersion(x.Key)
		if e != api.OK {
			return nil, e
		}
		seed, e := label.Seed(b.key, v.id, v.n)
		if e != api.OK {
			return nil, e
		}
		stale, superseded := at[label.Stale(seed)]
		fresh := at[label.Fresh(seed)]
		if superseded && stale.At <= b.epoch+1-age && (fresh.Value == label.Tomb()) == buried {
			l = append(l, old{v, seed, fresh, stale})
		}
		if len(l) == MaxSeeds {
			break
		}
	}
	return l, api.OK
}

// carry: an epoch as planned; beside an error all is as it was.
func (b *Book) carry(p plan) (Change, api.Errno) {
	all, e := leaves.All(b.store)
	if e != api.OK {
		return Change{}, e
	}
	s, e := step.Make(all, p.gone, p.fresh)
	if e != api.OK {
		return Change{}, e
	}
	text, e := step.Bytes(s)
	if e != api.OK {
		return Change{}, e
	}
	top, e := patch.Top(patch.Sorted(slices.Concat(s.Same, patch.Of(s.New))))
	if e != api.OK {
		return Change{}, e
	}
	batch, e := written(s)
	if e != api.OK {
		return Change{}, e
	}
	// One batch: behind a crash there is all of it, or nothing.
	batch = append(append(batch, p.values...), epochEntry(b.epoch+1))
	if e := b.store.Write(batch); e != api.OK {
		return Change{}, e
	}
	b.epoch++
	b.top = top
	return Change{Epoch: b.epoch, Top: top, Seeds: p.seeds, Step: text}, api.OK
}

// written: the entries of what a step changes.
func written(s step.Step) ([]api.Entry, api.Errno) {
	var l []api.Entry
	for _, x := range s.Old {
		if !slices.ContainsFunc(s.New, func(y node.Leaf) bool { return y.Label == x.Label }) {
			l = append(l, leaves.Gone(x.Label))
		}
	}
	for _, x := range s.New {
		if slices.Contains(s.Old, x) {
			continue
		}
		entry, e := leaves.Put(x)
		if e != api.OK {
			return nil, e
		}
		l = append(l, entry)
	}
	return l, api.OK
}
