package client_test

import (
	"math"
	"slices"
	"strings"
	"testing"

	"chirograph/api"
	"chirograph/book"
	"chirograph/client"
	"chirograph/label"
	"chirograph/node"
	"chirograph/patch"
	"chirograph/proof"
)

// forest is a tree of any leaves, whoever made it, with what is known of it.
type forest struct {
	client.View
	leaves []node.Leaf
}

func planted(t *testing.T, epoch int, l ...node.Leaf) forest {
	t.Helper()
	top, e := patch.Top(patch.Of(l))
	is(t, "Top", e, api.OK)
	return forest{client.View{Epoch: epoch, Top: top, Public: label.Public(key), Key: key}, l}
}

// spelt are the bytes of the proof of a label.
func (f forest) spelt(t *testing.T, l api.Label) string {
	t.Helper()
	p, e := proof.Make(f.leaves, l)
	is(t, "Make", e, api.OK)
	s, e := proof.Bytes(p)
	is(t, "Bytes", e, api.OK)
	return s
}

// proved is an answer with the proofs of its labels; of none where there are none.
func (f forest) proved(t *testing.T, a book.Answer) book.Answer {
	t.Helper()
	a.Epoch = f.Epoch
	if seed, e := label.Seed(key, a.Id, a.Version); e == api.OK {
		a.Fresh, a.Stale = f.spelt(t, label.Fresh(seed)), f.spelt(t, label.Stale(seed))
	}
	return a
}

func seedOf(id string, n int) api.Label {
	seed, e := label.Seed(key, id, n)
	if e != api.OK {
		panic(id)
	}
	return seed
}

func commit(id string, n int, value string) api.Label {
	seed := seedOf(id, n)
	return label.Commit(value, label.Nonce(key, seed))
}

func fresh(id string, n int, value api.Label, at int) node.Leaf {
	return node.Leaf{Label: label.Fresh(seedOf(id, n)), Value: value, At: at}
}

func stale(id string, n int, value api.Label, at int) node.Leaf {
	return node.Leaf{Label: label.Stale(seedOf(id, n)), Value: value, At: at}
}

// clause is a case of the chapter, and its error.
type clause struct {
	is bool
	e  api.Errno
}

// first is the error of the first clause that is so.
func first(l []clause) api.Errno {
	for _, c := range l {
		if c.is {
			return c.e
		}
	}
	return api.OK
}

// meant is what Version is to answer of an answer of identity "ann" whose proofs are right, where these leaves are there, by the chapter's words.
func meant(epoch int, a book.Answer, fresh, stale *node.Leaf) (int, api.Errno) {
	here, past := fresh != nil, stale != nil
	var f, s node.Leaf
	if here {
		f = *fresh
	}
	if past {
		s = *stale
	}
	l := []clause{
		{here && a.State == book.Absent || !here && a.State != book.Absent, api.ErrProof},
		{a.State < 0 || a.State > 2, api.ErrProof},
		{past && s.Value != label.Mark(), api.ErrProof},
		{past && !here, api.ErrProof},
		{past && a.Version == 0, api.ErrProof},
		{a.Version == 0 && a.State == book.Buried, api.ErrProof},
		{a.State != book.Present && a.Value != "", api.ErrForm},
		{a.Version == 0 && a.Value != "", api.ErrForm},
		{a.State == book.Absent && a.At != 0, api.ErrForm},
	}
	if a.State != book.Absent {
		value, at := commit("ann", a.Version, a.Value), f.At
		if a.Version == 0 {
			value, at = label.Mark(), 0
		}
		if a.State == book.Buried {
			value = label.Tomb()
		}
		l = append(l, []clause{
			{f.Value != value, api.ErrProof},
			{a.At != at, api.ErrProof},
			{f.At > epoch, api.ErrProof},
			{past && s.At <= f.At, api.ErrProof},
			{past && s.At > epoch, api.ErrProof},
			{!past && a.State == book.Buried, api.ErrProof},
		}...)
	}
	if e := first(l); e != api.OK {
		return 0, e
	}
	return s.At, api.OK
}

// meantLookup is what Lookup is to answer, where Version answers this.
func meantLookup(a book.Answer, past int, e api.Errno) api.Errno {
	return first([]clause{
		{e != api.OK, e},
		{past > 0, api.ErrProof},
		{a.State == book.Buried, api.ErrProof},
		{a.State == book.Absent && a.Version > 0, api.ErrProof},
		{a.State == book.Present && a.Version == 0, api.ErrProof},
	})
}

// some are leaves to choose from, and none.
func some(make func(value api.Label, at int) node.Leaf, values []api.Label, ats ...int) []*node.Leaf {
	l := []*node.Leaf{nil}
	for _, value := range values {
		for _, at := range ats {
			x := make(value, at)
			l = append(l, &x)
		}
	}
	return l
}

// answers are all that may be said of version n of ann, and more.
func answers(n int) []book.Answer {
	var l []book.Answer
	for _, state := range []int{-1, 0, 1, 2, 3} {
		for _, value := range []string{"", "x"} {
			for _, at := range []int{-1, 0, 3, 5, 6} {
				l = append(l, book.Answer{Id: "ann", Version: n, State: state, Value: value, At: at})
			}
		}
	}
	return l
}

// P21.3: all answers, of all leaves that may stand at their labels, beside other leaves and alone.
func TestAny(t *testing.T) {
	const epoch = 5
	count := map[api.Errno]int{}
	for _, others := range [][]node.Leaf{nil, {{Label: api.Label{1}}, {Label: api.Label{0xfe}, At: 9}}} {
		for n := range 2 {
			values := []api.Label{label.Mark(), label.Tomb(), commit("ann", n, ""), commit("ann", n, "x"), {1}}
			freshes := some(func(v api.Label, at int) node.Leaf { return fresh("ann", n, v, at) }, values, 0, 3, 5, 6)
			stales := some(func(v api.Label, at int) node.Leaf { return stale("ann", n, v, at) }, []api.Label{label.Mark(), label.Tomb()}, 0, 1, 3, 4, 5, 6)
			for _, f := range freshes {
				for _, s := range stales {
					l := slices.Clone(others)
					if f != nil {
						l = append(l, *f)
					}
					if s != nil {
						l = append(l, *s)
					}
					tree := planted(t, epoch, l...)
					proved := tree.proved(t, book.Answer{Id: "ann", Version: n})
					for _, a := range answers(n) {
						a.Epoch, a.Fresh, a.Stale = epoch, proved.Fresh, proved.Stale
						past, e := tree.Version(a)
						if wantPast, want := meant(epoch, a, f, s); past != wantPast || e != want {
							t.Fatalf("Version of %v where %v and %v stand: %d, %d instead of %d, %d", a, f, s, past, e, wantPast, want)
						}
						if got, want := tree.Lookup(a), meantLookup(a, past, e); got != want {
							t.Fatalf("Lookup of %v where %v and %v stand: %d instead of %d", a, f, s, got, want)
						}
						count[e]++
					}
				}
			}
		}
	}
	if count[api.OK] < 50 || count[api.ErrForm] < 50 || count[api.ErrProof] < 50 {
		t.Errorf("%v", count)
	}
}

// fault is something that is wrong with an answer, or with what is known; each has the error that the chapter names for it.
type fault struct {
	spoil func(v *client.View, a *book.Answer)
	e     api.Errno
}

// faults are those of which the chapter speaks, in its order.
func faults(f forest, t *testing.T) []fault {
	other := planted(t, 5, f.leaves[:1]...)
	elsewhere := other.proved(t, book.Answer{Id: "ann", Version: 1})
	return []fault{
		{func(v *client.View, a *book.Answer) { a.Epoch++ }, api.ErrEpoch},
		{func(v *client.View, a *book.Answer) { a.Id = "Ann" }, api.ErrForm},
		{func(v *client.View, a *book.Answer) { v.Key = "" }, api.ErrArg},
		{func(v *client.View, a *book.Answer) { a.Version = 1<<30 + 1 }, api.ErrArg},
		{func(v *client.View, a *book.Answer) { v.Public[31] ^= 1 }, api.ErrProof},
		{func(v *client.View, a *book.Answer) { a.Fresh = "" }, api.ErrEnd},
		{func(v *client.View, a *book.Answer) { a.Fresh = elsewhere.Fresh }, api.ErrProof},
		{func(v *client.View, a *book.Answer) { a.Stale = "\x09" }, api.ErrText},
		{func(v *client.View, a *book.Answer) { a.Stale = elsewhere.Stale }, api.ErrProof},
		{func(v *client.View, a *book.Answer) { a.State = 3 }, api.ErrProof},
		{func(v *client.View, a *book.Answer) { a.State, a.Value = book.Buried, "z" }, api.ErrForm},
		{func(v *client.View, a *book.Answer) { a.At++ }, api.ErrProof},
	}
}

// P21.3: of several faults the one that the chapter names first is told; Lookup and History tell it, too.
func TestOrder(t *testing.T) {
	f := planted(t, 5, fresh("ann", 0, label.Mark(), 2), fresh("ann", 1, commit("ann", 1, "x"), 3), fresh("bob", 0, label.Mark(), 4), fresh("bob", 1, label.Tomb(), 4))
	right := f.proved(t, book.Answer{Id: "ann", Version: 1, State: book.Present, Value: "x", At: 3})
	all := faults(f, t)
	for chosen := range 1 << len(all) {
		v, a, want := f.View, right, api.OK
		// The later ones first: an earlier one of the same field is the one that stands.
		for i, x := range slices.Backward(all) {
			if chosen>>i&1 == 1 {
				x.spoil(&v, &a)
				want = x.e
			}
		}
		past, e := v.Version(a)
		if past != 0 || e != want {
			t.Fatalf("faults %b: %d, %d instead of %d", chosen, past, e, want)
		}
		if e := v.Lookup(a); e != want {
			t.Fatalf("Lookup, faults %b: %d instead of %d", chosen, e, want)
		}
		if e := v.History([]book.Answer{a}, 1, 0); want != api.OK && e != want || want == api.OK && e != api.ErrEnd {
			t.Fatalf("History, faults %b: %d instead of %d", chosen, e, want)
		}
	}
}

// P21.3: which identities, versions and keys there are; whose error is told, and ahead of what.
func TestWrongArguments(t *testing.T) {
	f := planted(t, 5)
	for _, x := range []struct {
		key, id string
		n       int
		want    api.Errno
	}{
		{key, "ann", 1, api.OK}, {key, "ann", 1 << 30, api.OK}, {key, "ann", 0, api.OK},
		{key, "", 1, api.ErrEnd}, {key, "a\xff", 1, api.ErrText}, {key, strings.Repeat("a", 41), 1, api.ErrBig}, {key, "a..b", 1, api.ErrForm},
		{key, "ann", -1, api.ErrArg}, {key, "ann", math.MinInt, api.ErrArg}, {key, "ann", 1<<30 + 1, api.ErrArg}, {key, "ann", math.MaxInt, api.ErrArg},
		{"", "ann", 1, api.ErrArg}, {strings.Repeat("k", 65), "ann", 1, api.ErrArg}, {"", "", -1, api.ErrEnd}, {"", "A", 1, api.ErrForm},
		{"other", "ann", 1, api.ErrProof}, {"other", "ann", -1, api.ErrArg}, {"other", "A", 1, api.ErrForm},
	} {
		v := f.View
		v.Key = x.key
		a := f.proved(t, book.Answer{Id: "ann", Version: min(max(x.n, 0), 1<<30)})
		a.Id, a.Version = x.id, x.n
		if past, e := v.Version(a); past != 0 || e != x.want {
			t.Errorf("%v: %d, %d", x, past, e)
		}
	}
	// Another key of which was told, with proofs by it: the seed is of the key that is shown.
	v := f.View
	v.Key, v.Public = "k", label.Public("k")
	if _, e := v.Version(f.proved(t, book.Answer{Id: "ann", Version: 1})); e != api.OK {
		t.Errorf("another key: %d", e)
	}
	for _, epoch := range []int{-1, 0, 4, 6, math.MaxInt, math.MinInt} {
		a := f.proved(t, book.Answer{Id: "ann"})
		a.Epoch = epoch
		if past, e := f.Version(a); past != 0 || e != api.ErrEpoch {
			t.Errorf("epoch %d: %d, %d", epoch, past, e)
		}
	}
}

// P21.3: the errors of proofs, of both: bytes that say none, and such as are none for this label, or this tree.
func TestWrongProofs(t *testing.T) {
	l := []node.Leaf{fresh("ann", 0, label.Mark(), 2), fresh("ann", 1, commit("ann", 1, "x"), 3), stale("ann", 1, label.Mark(), 4), fresh("ann", 2, commit("ann", 2, "y"), 4)}
	f, g := planted(t, 5, l...), planted(t, 5, l[1:]...)
	right := f.proved(t, book.Answer{Id: "ann", Version: 1, State: book.Present, Value: "x", At: 3})
	if past, e := f.Version(right); past != 4 || e != api.OK {
		t.Fatalf("%d, %d", past, e)
	}
	elsewhere := g.proved(t, right)
	none, e := proof.Bytes(proof.Proof{})
	is(t, "Bytes", e, api.OK)
	for _, x := range []struct {
		fresh, stale string
		want         api.Errno
	}{
		{"", "", api.ErrEnd}, {"\x01", "\x09", api.ErrEnd}, {"\x09", "", api.ErrText}, {right.Fresh + "\x00", "", api.ErrForm}, {strings.Repeat("\x00", api.MaxText+1), "", api.ErrBig}, {"\x01\x03", "", api.ErrBig},
		{right.Fresh, "", api.ErrEnd}, {right.Fresh, "\x09", api.ErrText}, {right.Fresh, right.Stale + "\x00", api.ErrForm}, {right.Fresh, strings.Repeat("\x00", api.MaxText+1), api.ErrBig},
		{elsewhere.Fresh, right.Stale, api.ErrProof}, {right.Fresh, elsewhere.Stale, api.ErrProof}, {right.Stale, right.Fresh, api.ErrProof}, {elsewhere.Fresh, "", api.ErrProof}, {none, "", api.ErrProof}, {right.Fresh, none, api.ErrProof},
	} {
		a := right
		a.Fresh, a.Stale = x.fresh, x.stale
		if past, e := f.Version(a); past != 0 || e != x.want {
			t.Errorf("%.40q, %.40q: %d, %d instead of %d", x.fresh, x.stale, past, e, x.want)
		}
	}
}
